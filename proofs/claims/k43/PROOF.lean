import PyProof.Rows.All
import Wide.All
import OpenK.AllK
import Wide.FinOn
import Lean
import PyProof.EqAt
import PyProof.EqKinds
import PyProof.TupleCall
import PyProof.AttrMiss
import PyProof.ConsumeWalk
import KE.KDictOf
import OpenK.KOwn
import PyProof.NsDelKeeps
import KE.KIsAll
import PyProof.Rows.SumAny
import PyProof.NeKinds
import PyProof.SeqI3
import KE.KRevIter
import KE.KSortTup
import PyProof.DictIter
import KE.KDictList
import PyProof.TupleOfGen
import KE.KListMore
import KE.KFind
import PyProof.DictWalks
import OpenK.KCls
import PyProof.Rows.SetFrom
import PyProof.TupleKey
import PyProof.Rows.FactsT2
import PyProof.MinMaxWalk
import PyProof.WalkInts
import KE.BitLaws
import PySem.Challenge.RW_bitfloor_k43_packed
import KE.RegKIsAll
set_option Elab.async false
set_option linter.all false
set_option maxRecDepth 100000
theorem BE:type_of% @PySem.wpAny_bind:=@PySem.wpAny_bind
theorem BF:type_of% @List.length_map:=@List.length_map
theorem BG:type_of% @PySem.wpAny_pure:=@PySem.wpAny_pure
theorem BH:type_of% @PySem.Paired.length:=@PySem.Paired.length
theorem BI:type_of% @Nat.le_refl:=@Nat.le_refl
theorem BJ:type_of% @List.getElem?_eq_getElem:=@List.getElem?_eq_getElem
theorem BK:type_of% @PySem.Heap.get?_push_of_some:=@PySem.Heap.get?_push_of_some
theorem BL:type_of% @List.map_append:=@List.map_append
theorem BM:type_of% @PySem.Heap.lt_size:=@PySem.Heap.lt_size
theorem BN:type_of% @List.getElem?_map:=@List.getElem?_map
theorem BO:type_of% @List.mem_of_getElem?:=@List.mem_of_getElem?
theorem BP:type_of% @List.mem_append:=@List.mem_append
theorem BQ:type_of% @List.mem_map:=@List.mem_map
theorem BR:type_of% @PySem.sizeLine_eq:=@PySem.sizeLine_eq
theorem BS:type_of% @Nat.ne_of_lt:=@Nat.ne_of_lt
theorem BU:type_of% @List.length_append:=@List.length_append
theorem BV:type_of% @List.mem_cons:=@List.mem_cons
theorem BX:type_of% @List.getElem?_eq_some_iff:=@List.getElem?_eq_some_iff
theorem BY:type_of% @PySem.boot_len:=@PySem.boot_len
theorem BZ:type_of% @List.size_toArray:=@List.size_toArray
theorem B0:type_of% @List.take_add_one:=@List.take_add_one
theorem B1:type_of% @Ne.symm:=@Ne.symm
theorem B2:type_of% @List.take_length:=@List.take_length
theorem B3:type_of% @PySem.Heap.get?_push_size:=@PySem.Heap.get?_push_size
theorem B4:type_of% @List.map_cons:=@List.map_cons
theorem B5:type_of% @Option.map_eq_some_iff:=@Option.map_eq_some_iff
theorem B6:type_of% @List.mem_singleton:=@List.mem_singleton
theorem B7:type_of% @Nat.le_trans:=@Nat.le_trans
theorem B8:type_of% @List.length_take:=@List.length_take
theorem B9:type_of% @Bool.false_ne_true:=@Bool.false_ne_true
theorem Ca:type_of% @Option.some.inj:=@Option.some.inj
theorem Cb:type_of% @List.mem_filter:=@List.mem_filter
theorem Cc:type_of% @if_false:=@if_false
theorem Cd:type_of% @Nat.lt_of_lt_of_le:=@Nat.lt_of_lt_of_le
theorem Ce:type_of% @Nat.le_of_lt:=@Nat.le_of_lt
theorem Cf:type_of% @PySem.wpAny_mono:=@PySem.wpAny_mono
theorem Cg:type_of% @PySem.wpAny_field:=@PySem.wpAny_field
theorem Ci:type_of% @PySem.PassesOwn.never:=@PySem.PassesOwn.never
theorem Cj:type_of% @List.mem_range:=@List.mem_range
theorem Ck:type_of% @Nat.zero_le:=@Nat.zero_le
theorem Cm:type_of% @List.length_cons:=@List.length_cons
theorem Cn:type_of% @List.length_singleton:=@List.length_singleton
theorem Co:type_of% @decide_eq_true:=@decide_eq_true
theorem Cp:type_of% @List.not_mem_nil:=@List.not_mem_nil
theorem Cq:type_of% @or_false:=@or_false
theorem Cr:type_of% @PySem.F.plainAttrs_list:=@PySem.F.plainAttrs_list
theorem Cs:type_of% @congrArg:=@congrArg
theorem Ct:type_of% @Bool.false_eq_true:=@Bool.false_eq_true
theorem Cu:type_of% @List.getD_eq_getElem?_getD:=@List.getD_eq_getElem?_getD
theorem Cv:type_of% @decide_eq_false:=@decide_eq_false
theorem Cw:type_of% @List.mem_append_right:=@List.mem_append_right
theorem Cy:type_of% @List.length_range:=@List.length_range
theorem Cz:type_of% @PySem.wpAny_holding:=@PySem.wpAny_holding
theorem CA:type_of% @List.map_map:=@List.map_map
theorem CB:type_of% @beq_eq_false_iff_ne:=@beq_eq_false_iff_ne
theorem CC:type_of% @List.mem_cons_self:=@List.mem_cons_self
theorem CD:type_of% @List.mem_cons_of_mem:=@List.mem_cons_of_mem
theorem CF:type_of% @PySem.Heap.size_push:=@PySem.Heap.size_push
theorem CG:type_of% @PySem.F.slot_list_append:=@PySem.F.slot_list_append
theorem CH:type_of% @PySem.F.type_list_append:=@PySem.F.type_list_append
theorem CJ:type_of% @Nat.ne_of_gt:=@Nat.ne_of_gt
theorem CL:type_of% @PySem.wpAny_pyIter_list:=@PySem.wpAny_pyIter_list
theorem CM:type_of% @List.getElem?_append_left:=@List.getElem?_append_left
theorem CN:type_of% @PySem.wpAny_seqItems:=@PySem.wpAny_seqItems
theorem CO:type_of% @List.length_filter_le:=@List.length_filter_le
theorem CS:type_of% @PySem.W.kia_one:=@PySem.W.kia_one
theorem CU:type_of% @List.nodup_cons:=@List.nodup_cons
theorem CV:type_of% @List.getElem?_append_right:=@List.getElem?_append_right
theorem CW:type_of% @PySem.wpAny_call_entry:=@PySem.wpAny_call_entry
theorem CZ:type_of% @PySem.wpAny_setField_rec:=@PySem.wpAny_setField_rec
theorem C0:type_of% @PySem.codeAny_builtin:=@PySem.codeAny_builtin
theorem C2:type_of% @PySem.W.kia_tup:=@PySem.W.kia_tup
theorem C3:type_of% @List.nodup_append:=@List.nodup_append
theorem C4:type_of% @Nat.lt_irrefl:=@Nat.lt_irrefl
theorem C5:type_of% @PySem.wpAny_newObj_type:=@PySem.wpAny_newObj_type
theorem C6:type_of% @List.append_assoc:=@List.append_assoc
theorem C7:type_of% @List.replicate_succ':=@List.replicate_succ'
theorem C8:type_of% @List.append_nil:=@List.append_nil
theorem C9:type_of% @PySem.wpAny_callSpecial?_slot:=@PySem.wpAny_callSpecial?_slot
theorem Dc:type_of% @Int.toNat_natCast:=@Int.toNat_natCast
theorem Dd:type_of% @List.lookup_cons:=@List.lookup_cons
theorem De:type_of% @List.idxOf_lt_length_of_mem:=@List.idxOf_lt_length_of_mem
theorem Df:type_of% @decide_eq_true_eq:=@decide_eq_true_eq
theorem Dg:type_of% @List.getElem?_of_mem:=@List.getElem?_of_mem
theorem Dh:type_of% @List.filterMap_cons:=@List.filterMap_cons
theorem Di:type_of% @PySem.wpAny_pyIter_tuple:=@PySem.wpAny_pyIter_tuple
theorem Dj:type_of% @Nat.lt_of_le_of_lt:=@Nat.lt_of_le_of_lt
theorem Dk:type_of% @PySem.wpAny_loadPart':=@PySem.wpAny_loadPart'
theorem Dl:type_of% @PySem.Around.under_plainId:=@PySem.Around.under_plainId
theorem Dm:type_of% @Classical.byContradiction:=@Classical.byContradiction
theorem Dp:type_of% @List.getElem?_eq_none:=@List.getElem?_eq_none
theorem Dq:type_of% @Int.emod_nonneg:=@Int.emod_nonneg
theorem Dr:type_of% @Int.emod_lt_of_pos:=@Int.emod_lt_of_pos
theorem Ds:type_of% @List.length_take_le:=@List.length_take_le
theorem Dt:type_of% @List.length_filterMap_le:=@List.length_filterMap_le
theorem Du:type_of% @List.mem_append_left:=@List.mem_append_left
theorem Dv:type_of% @List.mem_filterMap:=@List.mem_filterMap
theorem Dw:type_of% @Int.natCast_nonneg:=@Int.natCast_nonneg
theorem Dx:type_of% @List.replicate_succ:=@List.replicate_succ
theorem Dy:type_of% @List.filter_append:=@List.filter_append
theorem Dz:type_of% @Int.toNat_of_nonneg:=@Int.toNat_of_nonneg
theorem DA:type_of% @PyProof.Rows.callWith_type1:=@PyProof.Rows.callWith_type1
theorem DB:type_of% @List.length_replicate:=@List.length_replicate
theorem DC:type_of% @List.getElem?_toArray:=@List.getElem?_toArray
theorem DD:type_of% @PySem.F.slot_dict_keyiterator_next:=@PySem.F.slot_dict_keyiterator_next
namespace L2
open PySem PySem.Spec PyProof.Rows
variable{xs vs:List V}{us:List Value}{H:Hp}{P:Program}{w:World}{h base:Heap}{g':Array GenState}{t' i j k n:Nat}{d':Drawn}{ch fp:List Addr}{N ps:List Str}{M:Model}{A:Around}{s' s:Shared}{X:Cx}{pos:Pos}{pins:List (Addr × Obj)}{Q:Value->Shared->Prop}{op:CmpOp}{y:V}{K:PySem.W.Frag}{D:Ends}{es:List Expr}{tg l:Expr}{te tl:TE}{g:TG}{body:List Stmt}{lo:Int}{pl:Sem Bool}{dx C:Addr}{mA mg:Str->Option Value}{kw:List (Str × Value)}{CX:CXT}{fd:FuncData}{outer:List Env}{kindOf:Str->Option NameKind}{qual:Str}{scope:Scope}
abbrev Key:=Sum Int Str
def keyIs:Key->Value->Bool
 | .inl k,v=>Value.isInt k v
 | .inr x,v=>Value.isStrOf x v
def keyH (w:World):Key->Int
 | .inl k=>hashInt k
 | .inr x=>hashStr w x
theorem dh:∀ {k:Key}{v:Value},keyIs k v=true->(∃ i t,k=Sum.inl i/\v=Value.int i t)\/(∃ x t,k=Sum.inr x/\v=Value.str x t)
 | .inl i,v,h=>by
  obtain ⟨t,e⟩:=Value.isInt_shape (k:=i) (v:=v) h;exact .inl ⟨i,t,rfl,e⟩
 | .inr x,v,h=>by
  obtain ⟨t,e⟩:=Value.isStrOf_shape (x:=x) (v:=v) h;exact .inr ⟨x,t,rfl,e⟩
theorem sV (i:Int) (t:Tok):keyIs (.inl i) (.int i t)=true:=by simp [keyIs,Value.isInt]
theorem sW (x:Str) (t:Tok):keyIs (.inr x) (.str x t)=true:=by simp [keyIs,Value.isStrOf]
theorem sX (a b:Int):decide ((Sum.inl a:Key)=Sum.inl b)=(a == b):=by
 by_cases e:a=b
 ·subst e; simp
 ·have h:¬ (Sum.inl a:Key)=Sum.inl b:=fun q=>e (Sum.inl.inj q)
  rw [Cv h];exact (CB.mpr e).symm
theorem sY (a b:Str):decide ((Sum.inr a:Key)=Sum.inr b)=decide (a=b):=by
 by_cases e:a=b
 ·subst e; simp
 ·have h:¬ (Sum.inr a:Key)=Sum.inr b:=fun q=>e (Sum.inr.inj q)
  rw [Cv h,Cv e]
theorem sZ (a:Int) (b:Str):decide ((Sum.inl a:Key)=Sum.inr b)=false:=Cv (fun q=>nomatch q)
theorem s9 (a:Str) (b:Int):decide ((Sum.inr a:Key)=Sum.inl b)=false:=Cv (fun q=>nomatch q)
def mixKind (prog:Program) (w:World):PySem.KeyKind prog w Key where
 is:=keyIs
 hash:=keyH w
 inj:=fun v a b ha hb=>by
  rcases dh ha with ⟨i,t,rfl,rfl⟩ | ⟨x,t,rfl,rfl⟩
  ·rcases dh hb with ⟨j,u,rfl,e⟩ | ⟨y,u,rfl,e⟩
   ·injection e with e1 _; rw [e1]
   ·exact nomatch e
  ·rcases dh hb with ⟨j,u,rfl,e⟩ | ⟨y,u,rfl,e⟩
   ·exact nomatch e
   ·injection e with e1 _; rw [e1]
 byValue:=fun k v h=>by
  rcases dh h with ⟨i,t,rfl,rfl⟩ | ⟨x,t,rfl,rfl⟩ <;> rfl
 pyHash:=fun hv h=>by
  rcases dh hv with ⟨i,t,rfl,rfl⟩ | ⟨x,t,rfl,rfl⟩
  ·exact wpAny_pyHash_int h
  ·exact wpAny_pyHash_str h
 eqBool:=fun hu hv h=>by
  rcases dh hu with ⟨i,t,rfl,rfl⟩ | ⟨x,t,rfl,rfl⟩
  ·rcases dh hv with ⟨j,u,rfl,rfl⟩ | ⟨y,u,rfl,rfl⟩
   ·rw [sX] at h; exact wpAny_eqBool_int h
   ·rw [sZ] at h; exact SeqAt.EqAt.int_str i t y u _ _ _ _ h
  ·rcases dh hv with ⟨j,u,rfl,rfl⟩ | ⟨y,u,rfl,rfl⟩
   ·rw [s9] at h; exact SeqAt.EqAt.str_int x t j u _ _ _ _ h
   ·rw [sY] at h; exact wpAny_eqBool_str h
 «strs»:=fun k x t v h=>by
  rcases dh h with ⟨i,u,rfl,e⟩ | ⟨y,u,rfl,e⟩
  ·exact nomatch e
  ·injection e with e1 _
   subst e1;cases v <;> rfl
theorem tm (prog:Program) (w:World) (i:Int) (t:Tok):(mixKind prog w).is (.inl i) (.int i t)=true:=sV i t
theorem tw (prog:Program) (w:World) (x:Str) (t:Tok):(mixKind prog w).is (.inr x) (.str x t)=true:=sW x t
inductive V where
 | non | bl (b:Bool) | int (i:Int) | str (x:Str) | byt (b:Array UInt8) | flt (b:UInt64) | ref (a:Addr) | ty (n:String)
 deriving DecidableEq
def RelV:V->Value->Prop
 | .non,u=>u=Value.none
 | .bl b,u=>u=Value.bool b
 | .int i,u=>∃ t,u=Value.int i t
 | .str x,u=>∃ t,u=Value.str x t
 | .byt b,u=>∃ t,u=Value.bytes b t
 | .flt b,u=>∃ t,u=Value.float b t
 | .ref a,u=>u=Value.ref a
 | .ty n,u=>u=Value.type n
abbrev Vals:List V->List Value->Prop:=Paired RelV
theorem Vals.length (r:Vals xs us):xs.length=us.length:=BH r
theorem Vals.get:∀ {xs:List V}{us:List Value}{i:Nat}{x:V},Vals xs us->xs[i]?=some x->∃ u,us[i]?=some u/\RelV x u
 | _,_,_,_,.nil,e=>by simp at e
 | _,_,0,_,.cons r _,e=>by simp at e; subst e; exact ⟨_,rfl,r⟩
 | _,_,i + 1,x,.cons _ t,e=>by
  obtain ⟨u,h1,h2⟩:=Vals.get (i:=i) (x:=x) t (by simpa using e)
  exact ⟨u,by simpa using h1,h2⟩
theorem Vals.set {x:V}{u:Value} (r:RelV x u):∀ {xs:List V}{us:List Value} (i:Nat),Vals xs us->Vals (xs.set i x) (us.set i u)
 | _,_,_,.nil=>.nil
 | _,_,0,.cons _ t=>.cons r t
 | _,_,i + 1,.cons q t=>.cons q (Vals.set r i t)
theorem Vals.append:∀ {xs ys:List V}{us ws:List Value},Vals xs us->Vals ys ws->Vals (xs++ys) (us++ws)
 | _,_,_,_,.nil,s=>s
 | _,_,_,_,.cons r t,s=>.cons r (Vals.append t s)
theorem Vals.take:∀ {xs:List V}{us:List Value} (n:Nat),Vals xs us->Vals (xs.take n) (us.take n)
 | _,_,0,_=>.nil
 | _,_,_ + 1,.nil=>.nil
 | _,_,n + 1,.cons r t=>.cons r (Vals.take n t)
theorem Vals.drop:∀ {xs:List V}{us:List Value} (n:Nat),Vals xs us->Vals (xs.drop n) (us.drop n)
 | _,_,0,r=>r
 | _,_,_ + 1,.nil=>.nil
 | _,_,n + 1,.cons _ t=>Vals.drop n t
def RelO:Option V->Option Value->Prop
 | some v,some u=>RelV v u
 | none,none=>True
 | _,_=>False
def KV {κ:Type}:List (κ × V)->List (κ × Value)->Prop:=Paired fun (p:κ × V) (q:κ × Value)=>p.1=q.1/\RelV p.2 q.2
def kV:Key->V
 | .inl i=>.int i
 | .inr x=>.str x
inductive HO where
 | lst (xs:List V)
 | tup (xs:List V)
 | dK (kvs:List (Key × V)) | dT (kvs:List (List Key × V))
 | set (S:Int->Bool) (n:Nat)
 | ins (C dx:Addr) (fs:List (Str × V))
 | own (x:Addr)
 | xd (fs:List (Str × V))
 | met (f x:Addr)
 | rng (lo hi:Int)
 | frz (o:Obj) (u:HO)
 | tbl (ps:Array Value)
 | ext (φ:Heap->Prop)
abbrev Hp:=Addr->Option HO
def upd (H:Hp) (a:Addr) (o:HO):Hp:=fun b=>if b=a then some o else H b
theorem af{a:Addr}{o:HO}:upd H a o a=some o:=by unfold upd; rw [if_pos rfl]
theorem aD{a b:Addr}{o:HO} (h:b≠a):upd H a o b=H b:=by unfold upd; rw [if_neg h]
theorem aI {H:Hp}{a b:Addr}{o u:HO} (h:H a=some o) (h':H b=some u) (d:o≠u):a≠b:=by
 intro e; subst e; rw [h] at h'; exact d (Ca h')
theorem ar {H:Hp}{a b:Addr}{o:HO} (h:H a=some o) (h':H b=none):a≠b:=by
 intro e; subst e; rw [h] at h'; cases h'
section
variable (P:Program) (w:World)
def ObjOk (H:Hp) (h:Heap) (a:Addr):HO->Prop
 | .lst xs=>xs.length<=sizeLine/\∃ (its:List Value) (n:Nat),Vals xs its/\h.get? a=some { cls:=.type "list",data:=.seq its.toArray n }
 | .tup xs=>xs.length<=sizeLine/\∃ its:List Value,Vals xs its/\IsTup h a its.toArray
 | .dK kvs=>kvs.length<=sizeLine/\(a == sysModules)=false/\∃ vs,KV kvs vs/\h.DictOf (mixKind P w) a vs
 | .dT kvs=>kvs.length<=sizeLine/\(a == sysModules)=false/\∃ xs:List (List Key × Addr × Value),
   Paired (fun (p:List Key × V) (q:List Key × Addr × Value)=>p.1=q.1/\H q.2.1=some (.tup (p.1.map kV))/\RelV p.2 q.2.2) kvs xs /\
   ∃ o es ep,h.get? a=some o/\o.ExactDict/\o.data=.dict es ep/\es.toList=xs.map (entryOfKey (tupleKind (mixKind P w)))/\(xs.map (·.1)).Nodup
 | .set S n=>h.SetOf (intKind P w) a S n
 | .ins C dx fs=>H dx=some (.own a)/\fs.length<=1000/\dx≠a/\h.get? a=some (PySem.W.instObj C dx) /\
   ∃ mA,h.Ns1 dx mA/\(∀ f,RelO (fs.lookup f) (mA f))/\PySem.Within mA (fs.map (·.1))
 | .own _=>∃ o,h.get? a=some o
 | .xd fs=>∃ mA,h.Ns1 a mA/\∀ f,RelO (fs.lookup f) (mA f)
 | .rng lo hi=>∃ t u v,h.get? a=some { cls:=.type "range",data:=.fields #[.int lo t,.int hi u,.int 1 v] }
 | .frz o u=>h.get? a=some o/\ObjOk H h a u
 | .tbl ps=>h.get? a=some { cls:=.none,data:=.fields ps }
 | .met f x=>h.get? a=some (PySem.W.methodObj (.ref f) (.ref x))
 | .ext φ=>φ h/\(∃ o,h.get? a=some o)/\∀ h1 h2:Heap,φ h1->(∀ o,h1.get? a=some o->h2.get? a=some o)->φ h2
def HOk (H:Hp) (h:Heap):Prop:=∀ a o,H a=some o->ObjOk P w H h a o
end
section
variable {P:Program}{w:World}{H H':Hp}{h h':Heap}{a:Addr}{o:HO}
theorem ObjOk.lt (x:ObjOk P w H h a o):a < h.objs.size:=by
 cases o with
 | lst xs=>obtain ⟨_,_,_,_,e⟩:=x; exact BM e
 | tup xs=>obtain ⟨_,_,_,p⟩:=x; exact p.lt
 | dK kvs=>obtain ⟨_,_,_,_,o,_,_,e,_⟩:=x; exact BM e
 | dT kvs=>obtain ⟨_,_,_,_,o,_,_,e,_⟩:=x; exact BM e
 | set S n=>obtain ⟨o,_,_,_,e,_⟩:=x; exact BM e
 | ins C dx fs=>obtain ⟨_,_,_,e,_⟩:=x; exact BM e
 | own y=>obtain ⟨_,e⟩:=x; exact BM e
 | xd fs=>obtain ⟨_,⟨_,_,_,e,_⟩,_⟩:=x; exact BM e
 | rng lo hi=>obtain ⟨_,_,_,e⟩:=x; exact BM e
 | frz ob u=>obtain ⟨e,_⟩:=x; exact BM e
 | tbl ps=>exact BM (show h.get? a=some _ from x)
 | met f y=>exact BM (show h.get? a=some _ from x)
 | ext φ=>obtain ⟨_,⟨_,e⟩,_⟩:=x; exact BM e
theorem Paired.mapP {α β:Type}{F G:α->β->Prop}:∀ {l₁:List α}{l₂:List β},Paired F l₁ l₂->(∀ a b,F a b->G a b)->Paired G l₁ l₂
 | _,_,.nil,_=>.nil
 | _,_,.cons r t,f=>.cons (f _ _ r) (Paired.mapP t f)
theorem ObjOk.stay (x:ObjOk P w H h a o) (k:∀ b u,(b=a\/H b=some (.own a))->h.get? b=some u->h'.get? b=some u)
  (ho:∀ b,H b=some (.own a)->H' b=some (.own a)) (ht:∀ b xs,H b=some (.tup xs)->H' b=some (.tup xs)):ObjOk P w H' h' a o:=by
 induction o with
 | lst xs=>obtain ⟨z,its,n,r,e⟩:=x; exact ⟨z,its,n,r,k _ _ (.inl rfl) e⟩
 | tup xs=>obtain ⟨z,its,r,ob,e,c⟩:=x; exact ⟨z,its,r,ob,k _ _ (.inl rfl) e,c⟩
 | dK kvs=>obtain ⟨z,y,vs,r,ob,es,ep,e,c⟩:=x; exact ⟨z,y,vs,r,ob,es,ep,k _ _ (.inl rfl) e,c⟩
 | dT kvs =>
  obtain ⟨z,y,xs,r,ob,es,ep,e,c⟩:=x;exact ⟨z,y,xs,Paired.mapP r fun p q z=>⟨z.1,ht _ _ z.2.1,z.2.2⟩,ob,es,ep,k _ _ (.inl rfl) e,c⟩
 | set S n=>obtain ⟨ob,es,ep,t,e,c⟩:=x; exact ⟨ob,es,ep,t,k _ _ (.inl rfl) e,c⟩
 | ins C dx fs =>
  obtain ⟨d,z,ne,e,mA,⟨od,es,ep,e2,c⟩,r⟩:=x;exact ⟨ho _ d,z,ne,k _ _ (.inl rfl) e,mA,⟨od,es,ep,k _ _ (.inr d) e2,c⟩,r⟩
 | own y=>obtain ⟨ob,e⟩:=x; exact ⟨ob,k _ _ (.inl rfl) e⟩
 | xd fs=>obtain ⟨mA,⟨od,es,ep,e,c⟩,r⟩:=x; exact ⟨mA,⟨od,es,ep,k _ _ (.inl rfl) e,c⟩,r⟩
 | rng lo hi=>obtain ⟨t,u,v,e⟩:=x; exact ⟨t,u,v,k _ _ (.inl rfl) e⟩
 | frz ob u ih=>obtain ⟨e,q⟩:=x; exact ⟨k _ _ (.inl rfl) e,ih q⟩
 | tbl ps =>
  have e:h.get? a=some { cls:=.none,data:=.fields ps }:=x;show h'.get? a=some { cls:=.none,data:=.fields ps };exact k a _ (.inl rfl) e
 | met f y =>
  have e:h.get? a=some (PySem.W.methodObj (.ref f) (.ref y)):=x;show h'.get? a=some (PySem.W.methodObj (.ref f) (.ref y));exact k a _ (.inl rfl) e
 | ext φ=>obtain ⟨p,⟨o,e⟩,st⟩:=x; exact ⟨st _ _ p fun o q=>k _ _ (.inl rfl) q,⟨o,k _ _ (.inl rfl) e⟩,st⟩
theorem HOk.lt (x:HOk P w H h) (e:H a=some o):a < h.objs.size:=(x a o e).lt
theorem HOk.fresh (x:HOk P w H h) (e:h.objs.size<=a):H a=none:=by
 cases q:H a with
 | none=>rfl
 | some u=>exact absurd (Cd (x.lt q) e) (C4 _)
theorem HOk.kept (x:HOk P w H h) (k:∀ b u,h.get? b=some u->h'.get? b=some u):HOk P w H h':=fun a o e =>
 (x a o e).stay (fun b u _ q=>k b u q) (fun _ q=>q) fun _ _ q=>q
theorem HOk.laid (x:HOk P w H h) (k:∀ b u,h.get? b=some u->h'.get? b=some u) (hp:h.objs.size<=a) (new:ObjOk P w (upd H a o) h' a o):HOk P w (upd H a o) h':=fun b u e=>by
 have hn:=x.fresh hp
 by_cases hb:b=a
 ·subst hb; rw [af] at e; cases e; exact new
 ·rw [aD hb] at e
  exact (x b u e).stay (fun c v _ q=>k c v q) (fun c q=>by rw [aD (ar q hn)]; exact q) fun c xs q=>by rw [aD (ar q hn)]; exact q
end
def Rd (H:Hp) (a:Addr) (u:HO):Prop:=H a=some u\/∃ o,H a=some (.frz o u)
theorem Rd.ok{a:Addr}{u:HO} (r:Rd H a u) (x:HOk P w H h):ObjOk P w H h a u:=by
 rcases r with r | ⟨o,r⟩
 ·exact x a u r
 ·obtain ⟨_,q⟩:=x a _ r
  exact q
def Mut:Option HO->Prop
 | some (.lst _)=>True
 | some (.dK _)=>True
 | some (.dT _)=>True
 | some (.set _ _)=>True
 | some (.ins _ _ _)=>True
 | some (.ext _)=>True
 | _=>False
section
variable {P:Program}{w:World}{H:Hp}{h h':Heap}{x e:Addr}{o':HO}
theorem HOk.write (ok:HOk P w H h) (mu:Mut (H x)) (he:e=x\/H e=some (.own x)) (k:∀ b u,b≠e->h.get? b=some u->h'.get? b=some u) (heo:∃ u,h'.get? e=some u)
  (new:ObjOk P w (upd H x o') h' x o'):HOk P w (upd H x o') h':=fun b u q=>by
 have nown:∀ c y,H c=some (.own y)->c≠x:=fun c y r z=>by subst z; rw [r] at mu; exact mu
 have ntup:∀ c xs,H c=some (.tup xs)->c≠x:=fun c xs r z=>by subst z; rw [r] at mu; exact mu
 by_cases hb:b=x
 ·subst hb; rw [af] at q; cases q; exact new
 ·rw [aD hb] at q
  by_cases hbe:b=e
  ·have q':H b=some (.own x):=by
    rcases he with z | z
    ·exact absurd (hbe.trans z) hb
    ·rw [hbe]; exact z
   rw [q] at q'; cases q';obtain ⟨v,hv⟩:=heo;exact ⟨v,by rw [hbe]; exact hv⟩
  ·refine (ok b u q).stay (fun c v hc r=>k c v ?_ r) (fun c r=>by rw [aD (nown c b r)]; exact r) fun c xs r=>by rw [aD (ntup c xs r)]; exact r
   rcases hc with rfl | hc
   ·exact hbe
   ·rintro rfl
    rcases he with z | z
    ·exact nown c b hc z
    ·rw [hc] at z; cases z; exact hb rfl
end
structure Un (fs ex:List Addr) (H H':Hp) (h h':Heap):Prop where
 keep:∀ b o,h.get? b=some o->H b=none->b ∉ fs->b ∉ ex->h'.get? b=some o
 slot:∀ b o,h.get? b=some o->H b=none->b∈fs->b ∉ ex->∃ sl,h'.get? b=some { o with slots:=sl }
 free:∀ b o,h.get? b=some o->H b=none->b ∉ ex->H' b=none
 there:∀ b o,h.get? b=some o->b ∉ ex->∃ o',h'.get? b=some o'
 tups:∀ b xs,H b=some (.tup xs)->H' b=some (.tup xs)
 frzs:∀ b o u,H b=some (.frz o u)->H' b=some (.frz o u)
 tbls:∀ b ps,H b=some (.tbl ps)->∃ more,H' b=some (.tbl (ps++more))
section
variable {fs fs' ex ex':List Addr}{H H1 H2:Hp}{h h1 h2 h':Heap}{a x e:Addr}{o:HO}
theorem Un.any (u:Un fs ex H H1 h h1) {b:Addr}{ob:Obj} (q:h.get? b=some ob) (n:H b=none) (hx:b ∉ ex):∃ sl,h1.get? b=some { ob with slots:=sl }:=by
 by_cases hb:b∈fs
 ·exact u.slot b ob q n hb hx
 ·exact ⟨ob.slots,u.keep b ob q n hb hx⟩
theorem Un.kept (k:∀ b u,h.get? b=some u->h'.get? b=some u):Un fs ex H H h h' :=
 ⟨fun b ob q _ _ _=>k b ob q,fun b ob q _ _ _=>⟨ob.slots,k b ob q⟩,fun _ _ _ n _=>n,fun b ob q _=>⟨ob,k b ob q⟩,fun _ _ q=>q,fun _ _ _ q=>q,fun _ ps q=>⟨#[],by rw [q]; simp⟩⟩
theorem Un.refl:Un fs ex H H h h:=Un.kept fun _ _ q=>q
theorem Un.laid (k:∀ b u,h.get? b=some u->h'.get? b=some u) (hp:h.objs.size<=a) (hn:H a=none):Un fs ex H (upd H a o) h h' where
 keep:=fun b u q _ _ _=>k b u q
 slot:=fun b u q _ _ _=>⟨u.slots,k b u q⟩
 free:=fun b u q n _=>by rw [aD (BS (Cd (BM q) hp))]; exact n
 there:=fun b u q _=>⟨u,k b u q⟩
 tups:=fun b xs q=>by rw [aD (ar q hn)]; exact q
 frzs:=fun b u xs q=>by rw [aD (ar q hn)]; exact q
 tbls:=fun b ps q=>⟨#[],by rw [aD (ar q hn),q]; simp⟩
theorem Un.write (mu:Mut (H x)) (he:e=x\/H e=some (.own x)) (k:∀ b u,b≠e->h.get? b=some u->h'.get? b=some u) (heo:∃ u,h'.get? e=some u):Un fs ex H (upd H x o) h h':=by
 have hx:∀ b,H b=none->b≠x:=fun b n z=>by subst z; rw [n] at mu; exact mu
 have hb:∀ b,H b=none->b≠e:=fun b n z=>by
  subst z;rcases he with r | r
  ·exact hx b n r
  ·rw [n] at r; cases r
 have hm:∀ b u,H b=some u->¬ Mut (some u)->b≠x:=fun b u q nm z=>by subst z; rw [q] at mu; exact nm mu
 refine ⟨fun b u q n _ _=>k b u (hb b n) q,fun b u q n _ _=>⟨u.slots,k b u (hb b n) q⟩,fun b u q n _=>by rw [aD (hx b n)]; exact n,fun b u q _=>?_,
  fun b xs q=>by rw [aD (hm b _ q fun z=>z)]; exact q,fun b u xs q=>by rw [aD (hm b _ q fun z=>z)]; exact q,fun b ps q=>⟨#[],by rw [aD (hm b _ q fun z=>z),q]; simp⟩⟩
 by_cases hbe:b=e
 ·subst hbe; exact heo
 ·exact ⟨u,k b u hbe q⟩
end
def trk (h:Heap) (H:Hp):List Addr:=(List.range h.objs.size).filter fun a=>(H a).isSome
def hidT (h:Heap) (H:Hp):Heap:=PySem.W.hideAll h (trk h H)
theorem tD (h:Heap) (H:Hp):(hidT h H).objs.size=h.objs.size:=PySem.W.hideAll_size _ _
theorem tE{b:Addr}{o:Obj} (e:h.get? b=some o) (n:H b=none):(hidT h H).get? b=some o :=
 PySem.W.hideAll_get _ e fun hm=>by
  have q:(H b).isSome=true:=(Cb.mp hm).2;rw [n] at q; simp at q
theorem tF{b:Addr}{o:Obj} (e:(hidT h H).get? b=some o):h.get? b=some o/\H b=none:=by
 have e':h.get? b=some o:=PySem.W.of_hideAll (trk h H) e;refine ⟨e',?_⟩;cases q:H b with
 | none=>rfl
 | some x =>
  have hm:b∈trk h H:=Cb.mpr ⟨Cj.mpr (BM e'),by simp [q]⟩
  have z:(hidT h H).get? b=none:=PySem.W.hideAll_none (trk h H) hm;rw [z] at e; cases e
structure Mod (K:PySem.W.Frag) (mg:Str->Option Value) (base:Heap):Prop where
 kin:K.In base
 glob:base.Ns mainGlobals mg
 blt:∃ mb,base.Ns builtinsNs mb/\∀ x:Str,x ≠ "__name__" -> mb x=bootBuiltins x
 nolimit:base.NoLimit
structure Cx where
 prog:Program
 w:World
 K:PySem.W.Frag
 mg:Str->Option Value
 base:Heap
 A:Around
 N:List Str
 s₀:Shared
 H₀:Hp
 env:Env
 outer:List Env
 stack:List Env
 ex:List Addr
 fn:Str->Bool
 calm:Bool
 pn:List (Addr × Obj)
 xe:Value->Shared->Prop
def frs (l:List Env):List Addr:=l.filterMap (·.frame)
abbrev Cx.fs (X:Cx):List Addr:=frs X.outer
def Vis (sc:Scope) (x:Str):Prop:=sc.names.lookup x=some .local\/sc.names.lookup x=some .cell\/sc.names.lookup x=some .free
def Loc (sc:Scope) (x:Str):Prop:=sc.names.lookup x=some .local\/sc.names.lookup x=some .cell
def Look (env:Env) (h:Heap) (m:Str->Option Value) (x:Str) (u:Value):Prop :=
 (env.kindOf x=some .local/\m x=some u)\/((env.kindOf x=some .cell\/env.kindOf x=some .free)/\∃ c,env.cells.lookup x=some c/\h.IsCell c (some u))
structure Cx.Ok (X:Cx):Prop where
 mod:Mod X.K X.mg X.base
 kind:X.env.scope.kind=.function
 glob:X.env.globals=mainGlobals
 blt:X.env.builtins=builtinsNs
 above:X.s₀.heap.objs.size<=X.env.locals
 inj:∀ x y c,X.env.cells.lookup x=some c->X.env.cells.lookup y=some c->x=y
 has:∀ x,(X.env.kindOf x=some .cell\/X.env.kindOf x=some .free)->∃ c,X.env.cells.lookup x=some c
 cab:∀ x c,X.fn x=true->X.env.cells.lookup x=some c->X.s₀.heap.objs.size<=c
 hd:X.calm=true->X.A.handled=none
 frames:X.A.frames=some X.stack
 stk:X.stack=X.outer\/(X.stack=X.env :: X.outer/\X.env.frame=some X.env.locals)
 exf:∀ b∈X.ex,b≠X.env.locals/\∀ x c,X.env.cells.lookup x=some c->c≠b
 bs:∀ b o,X.base.get? b=some o->X.s₀.heap.get? b=some o/\X.H₀ b=none
 bsz:X.base.objs.size<=X.s₀.heap.objs.size
 noex:∀ b o,X.base.get? b=some o->b ∉ X.ex
 exfs:∀ b∈X.ex,b ∉ X.fs
 funs:X.s₀.heap.FunFrames X.base X.outer
 frf:∀ b∈X.fs,X.H₀ b=none
structure Inv (X:Cx) (pins:List (Addr × Obj)) (σ:List (Option V)) (H:Hp) (s:Shared):Prop where
 ok:X.Ok
 os:s.os=X.s₀.os
 bare:AllBare s.gens
 base:Un X.fs X.ex X.H₀ H X.s₀.heap s.heap
 loc:∃ m,s.heap.Ns X.env.locals m/\∀ (i:Nat) (x:Str) (v:V),X.N[i]?=some x->σ[i]?=some (some v)->Vis X.env.scope x->∃ u,RelV v u/\Look X.env s.heap m x u
 cell:∀ x c,X.env.cells.lookup x=some c->∃ v,s.heap.IsCell c v
 free:H X.env.locals=none
 freeC:∀ x c,X.env.cells.lookup x=some c->H c=none
 pin:∀ p∈X.pn++pins,s.heap.get? p.1=some p.2/\H p.1=none/\p.1≠X.env.locals/\p.1 ∉ X.fs/\∀ v,p.2.data≠.cell v
 hok:HOk X.prog X.w H s.heap
 len:σ.length=X.N.length
section
variable {X:Cx}{pins:List (Addr × Obj)}{σ:List (Option V)}{H H':Hp}{s:Shared}{h':Heap}
theorem Cx.Ok.nofr (ok:X.Ok) {b:Addr}{o:Obj} (e:X.base.get? b=some o):b ∉ X.fs:=fun hb=>by
 have:=(ok.funs.mem hb).1;rw [e] at this; cases this
theorem Inv.bs (I:Inv X pins σ H s):∀ b o,X.base.get? b=some o->s.heap.get? b=some o/\H b=none:=fun b o e =>
 ⟨I.base.keep b o (I.ok.bs b o e).1 (I.ok.bs b o e).2 (I.ok.nofr e) (I.ok.noex b o e),I.base.free b o (I.ok.bs b o e).1 (I.ok.bs b o e).2 (I.ok.noex b o e)⟩
theorem Inv.bk (I:Inv X pins σ H s):∀ b o,X.base.get? b=some o->s.heap.get? b=some o:=fun b o e=>(I.bs b o e).1
theorem Inv.mod (I:Inv X pins σ H s):Mod X.K X.mg X.base:=I.ok.mod
theorem Inv.kIn (I:Inv X pins σ H s):X.K.In s.heap:=I.ok.mod.kin.keeps I.bk
theorem Inv.lt (I:Inv X pins σ H s):X.env.locals < s.heap.objs.size:=let ⟨_,hn,_⟩:=I.loc; hn.lt
theorem Inv.sz (I:Inv X pins σ H s):X.s₀.heap.objs.size<=s.heap.objs.size:=B7 I.ok.above (Ce I.lt)
theorem Inv.nofs (I:Inv X pins σ H s) {a:Addr} (h:s.heap.objs.size<=a):a ∉ X.fs:=fun hb=>by
 obtain ⟨_,o,ho,_⟩:=I.ok.funs.mem hb;exact absurd (Cd (BM ho) (B7 I.sz h)) (C4 _)
theorem Inv.cne (I:Inv X pins σ H s):∀ x c,X.env.cells.lookup x=some c->c≠X.env.locals:=fun x c e z=>by
 obtain ⟨v,o,ho,hd⟩:=I.cell x c e;obtain ⟨m,⟨o',es,ep,ho',hd',_⟩,_⟩:=I.loc;rw [z,ho'] at ho; cases ho; rw [hd'] at hd; cases hd
theorem Inv.funs (I:Inv X pins σ H s):s.heap.FunFrames X.base X.outer:=by
 have all:∀ (l:List Env),(∀ b∈frs l,b∈X.fs)->X.s₀.heap.FunFrames X.base l->s.heap.FunFrames X.base l:=by
  intro l
  induction l with
  | nil=>intro _ _; trivial
  | cons env r ih =>
   intro hs hl;obtain ⟨hk,⟨L,o,hf,hn,ho,hd⟩,hr⟩:=hl;have hL:L∈X.fs:=hs L (by unfold frs; rw [Dh,hf]; exact CC)
   obtain ⟨sl,e⟩:=I.base.slot L o ho (I.ok.frf L hL) hL fun z=>I.ok.exfs L z hL
   exact ⟨hk,⟨L,_,hf,hn,e,hd⟩,ih (fun b hb=>hs b (by unfold frs; rw [Dh,hf]; exact CD _ hb)) hr⟩
 exact all X.outer (fun _ hb=>hb) I.ok.funs
theorem Inv.stack (I:Inv X pins σ H s):s.heap.FunFrames X.base X.stack:=by
 rcases I.ok.stk with e | ⟨e,hf⟩
 ·rw [e]; exact I.funs
 ·rw [e]
  obtain ⟨m,hn,_⟩:=I.loc;refine .cons (by rw [I.ok.kind]; decide) hf hn ?_ I.funs
  exact Heap.get?_none_of_le (B7 I.ok.bsz I.ok.above)
theorem Inv.stkSub (I:Inv X pins σ H s):∀ b∈frs X.stack,b∈X.env.locals :: X.fs:=fun b hb=>by
 rcases I.ok.stk with e | ⟨e,hf⟩
 ·rw [e] at hb; exact CD _ hb
 ·rw [e] at hb
  unfold frs at hb;rw [Dh,hf] at hb;exact hb
theorem Inv.stkFree (I:Inv X pins σ H s):∀ b∈frs X.stack,H b=none:=fun b hb=>by
 rcases BV.mp (I.stkSub b hb) with e | hb
 ·rw [e]; exact I.free
 ·obtain ⟨_,o,ho,_⟩:=I.ok.funs.mem hb
  exact I.base.free b o ho (I.ok.frf b hb) fun z=>I.ok.exfs b z hb
theorem Inv.step {g':Array GenState}{t':Nat}{d':Drawn}{ch:List Addr} (I:Inv X pins σ H s)
  (hch:∀ b∈ch,(b∈X.ex\/X.s₀.heap.objs.size<=b)/\b≠X.env.locals/\(∀ x c,X.env.cells.lookup x=some c->c≠b)/\∀ p∈X.pn++pins,p.1≠b)
  (keep:∀ b o,b≠X.env.locals->b ∉ X.fs->b ∉ ch->s.heap.get? b=some o->H b=none->h'.get? b=some o)
  (slot:∀ b o,b≠X.env.locals->b∈X.fs->b ∉ ch->s.heap.get? b=some o->H b=none->∃ sl,h'.get? b=some { o with slots:=sl }) (free:∀ b o,b ∉ ch->s.heap.get? b=some o->H b=none->H' b=none)
  (there:∀ b o,b ∉ ch->s.heap.get? b=some o->∃ o',h'.get? b=some o')
  (tups:∀ b xs,H b=some (.tup xs)->H' b=some (.tup xs)) (frzs:∀ b o u,H b=some (.frz o u)->H' b=some (.frz o u)) (tbls:∀ b ps,H b=some (.tbl ps)->∃ more,H' b=some (.tbl (ps++more)))
  (ns:∀ m,s.heap.Ns X.env.locals m->h'.Ns X.env.locals m) (hok:HOk X.prog X.w H' h') (hg:AllBare g') :
  Inv X pins σ H' { s with heap:=h',gens:=g',drawn:=d',toks:=t' }:=by
 have neL:∀ b o,X.s₀.heap.get? b=some o->b≠X.env.locals:=fun b o e=>BS (Cd (BM e) I.ok.above)
 have neC:∀ b o,X.s₀.heap.get? b=some o->b ∉ X.ex->b ∉ ch:=fun b o e hx hb=>by
  rcases (hch b hb).1 with z | z
  ·exact hx z
  ·exact absurd (Cd (BM e) z) (C4 _)
 have cellK:∀ x c,X.env.cells.lookup x=some c->∀ v,s.heap.IsCell c v->h'.IsCell c v:=fun x c e v ⟨o,ho,hd⟩=>by
  have nch:c ∉ ch:=fun z=>(hch c z).2.2.1 x c e rfl
  by_cases hc:c∈X.fs
  ·obtain ⟨sl,q⟩:=slot c o (I.cne x c e) hc nch ho (I.freeC x c e)
   exact ⟨_,q,hd⟩
  ·exact ⟨o,keep c o (I.cne x c e) hc nch ho (I.freeC x c e),hd⟩
 refine ⟨I.ok,I.os,hg,⟨fun b o e n hb hx=>?_,fun b o e n hb hx=>?_,fun b o e n hx=>?_,fun b o e hx=>?_,fun b xs e=>tups b xs (I.base.tups b xs e),fun b o xs e=>frzs b o xs (I.base.frzs b o xs e),fun b ps e=>?_⟩,?_,fun x c e=>?_,?_,fun x c e=>?_,fun p hp=>?_,hok,I.len⟩
 ·exact keep b o (neL b o e) hb (neC b o e hx) (I.base.keep b o e n hb hx) (I.base.free b o e n hx)
 ·obtain ⟨sl,e1⟩:=I.base.slot b o e n hb hx
  obtain ⟨sl',e2⟩:=slot b _ (neL b o e) hb (neC b o e hx) e1 (I.base.free b o e n hx);exact ⟨sl',e2⟩
 ·obtain ⟨o',e1⟩:=I.base.there b o e hx
  exact free b o' (neC b o e hx) e1 (I.base.free b o e n hx)
 ·obtain ⟨o',e1⟩:=I.base.there b o e hx
  exact there b o' (neC b o e hx) e1
 ·obtain ⟨m1,e1⟩:=I.base.tbls b ps e
  obtain ⟨m2,e2⟩:=tbls b _ e1;exact ⟨m1++m2,by rw [e2,Array.append_assoc]⟩
 ·obtain ⟨m,hn,hl⟩:=I.loc
  refine ⟨m,ns m hn,fun i x v e1 e2 e3=>?_⟩
  obtain ⟨u,r,l⟩:=hl i x v e1 e2 e3;refine ⟨u,r,?_⟩;rcases l with l | ⟨k,c,e,z⟩
  ·exact .inl l
  ·exact .inr ⟨k,c,e,cellK x c e _ z⟩
 ·obtain ⟨v,z⟩:=I.cell x c e
  exact ⟨v,cellK x c e v z⟩
 ·obtain ⟨m,⟨o,_,_,ho,_⟩,_⟩:=I.loc
  exact free _ o (fun z=>(hch _ z).2.1 rfl) ho I.free
 ·obtain ⟨v,o,ho,hd⟩:=I.cell x c e
  exact free c o (fun z=>(hch c z).2.2.1 x c e rfl) ho (I.freeC x c e)
 ·obtain ⟨e,n,ne,nf,d⟩:=I.pin p hp
  have nch:p.1 ∉ ch:=fun z=>(hch p.1 z).2.2.2 p hp rfl
  exact ⟨keep p.1 p.2 ne nf nch e n,free p.1 p.2 nch e n,ne,nf,d⟩
theorem Inv.un {t':Nat} (I:Inv X pins σ H s) (u:Un X.fs [] H H' s.heap h') (hok:HOk X.prog X.w H' h'):Inv X pins σ H' { s with heap:=h',toks:=t' }:=by
 obtain ⟨m,⟨o,es,ep,ho,r⟩,_⟩:=id I.loc;obtain ⟨sl,hL⟩:=u.any ho I.free (by simp)
 exact I.step (g':=s.gens) (d':=s.drawn) (ch:=[]) (fun _ z=>nomatch z) (fun b o _ hb _ e n=>u.keep b o e n hb (by simp)) (fun b o _ hb _ e n=>u.slot b o e n hb (by simp)) (fun b o _ e n=>u.free b o e n (by simp)) (fun b o _ e=>u.there b o e (by simp)) u.tups u.frzs u.tbls (fun m' hm=>by
  obtain ⟨o',es',ep',ho',r'⟩:=hm;rw [ho] at ho'; cases ho';exact ⟨_,es',ep',hL,r'⟩) hok I.bare
theorem Inv.call{t':Nat}{d':Drawn} (I:Inv X pins σ H s) (u:Un (frs X.stack) ch H H' s.heap h') (hok:HOk X.prog X.w H' h') (hg:AllBare g')
  (hch:∀ b∈ch,(b∈X.ex\/X.s₀.heap.objs.size<=b)/\b≠X.env.locals/\(∀ x c,X.env.cells.lookup x=some c->c≠b)/\∀ p∈X.pn++pins,p.1≠b) :
  Inv X pins σ H' { s with heap:=h',gens:=g',drawn:=d',toks:=t' }:=by
 obtain ⟨m,⟨o,es,ep,ho,r⟩,_⟩:=id I.loc;obtain ⟨sl,hL⟩:=u.any ho I.free fun z=>(hch _ z).2.1 rfl
 exact I.step (ch:=ch) hch (fun b o hL hb hc e n=>u.keep b o e n (fun z=>(BV.mp (I.stkSub b z)).elim hL hb) hc) (fun b o _ _ hc e n=>u.any e n hc) (fun b o hc e n=>u.free b o e n hc) (fun b o hc e=>u.there b o e hc) u.tups u.frzs u.tbls (fun m' hm=>by
  obtain ⟨o',es',ep',ho',r'⟩:=hm;rw [ho] at ho'; cases ho';exact ⟨_,es',ep',hL,r'⟩) hok hg
theorem Inv.turned {t':Nat}{it:Addr} (I:Inv X pins σ H s) (k:∀ b o,b≠it->s.heap.get? b=some o->h'.get? b=some o) (hn:H it=none) (hL:it≠X.env.locals)
  (h1:it∈X.ex\/X.s₀.heap.objs.size<=it) (h2:∀ x c,X.env.cells.lookup x=some c->c≠it) (h3:∀ p∈X.pn++pins,p.1≠it):Inv X pins σ H { s with heap:=h',toks:=t' }:=by
 have nit:∀ b u,H b=some u->b≠it:=fun b u e z=>by rw [z,hn] at e; cases e
 refine I.step (g':=s.gens) (d':=s.drawn) (ch:=[it]) (fun b hb=>?_) (fun b o _ _ hc e _=>k b o (fun z=>hc (by simp [z])) e) (fun b o _ _ hc e _=>⟨o.slots,k b o (fun z=>hc (by simp [z])) e⟩) (fun _ _ _ _ n=>n)
  (fun b o hc e=>⟨o,k b o (fun z=>hc (by simp [z])) e⟩) (fun _ _ e=>e) (fun _ _ _ e=>e) (fun b ps e=>⟨#[],by rw [e]; simp⟩) (fun m hm=>?_) (fun b u e=>?_) I.bare
 ·have e:b=it:=by simpa using hb
  subst e;exact ⟨h1,hL,h2,h3⟩
 ·obtain ⟨o,es,ep,ho,r⟩:=hm
  exact ⟨o,es,ep,k _ o (B1 hL) ho,r⟩
 ·refine (I.hok b u e).stay (fun c v hc q=>k c v ?_ q) (fun _ q=>q) fun _ _ q=>q
  rcases hc with z | z
  ·rw [z]; exact nit b u e
  ·exact nit c _ z
theorem Inv.tok (I:Inv X pins σ H s) (t:Nat):Inv X pins σ H { s with toks:=t }:=I.un (h':=s.heap) (t':=t) Un.refl I.hok
theorem Inv.kept {t':Nat} (I:Inv X pins σ H s) (k:∀ b u,s.heap.get? b=some u->h'.get? b=some u):Inv X pins σ H { s with heap:=h',toks:=t' }:=I.un (Un.kept k) (I.hok.kept k)
theorem Inv.laid {a:Addr}{o:HO}{t':Nat} (I:Inv X pins σ H s) (k:∀ b u,s.heap.get? b=some u->h'.get? b=some u) (hp:s.heap.objs.size<=a) (new:ObjOk X.prog X.w (upd H a o) h' a o) :
  Inv X pins σ (upd H a o) { s with heap:=h',toks:=t' }:=I.un (Un.laid k hp (I.hok.fresh hp)) (I.hok.laid k hp new)
theorem Inv.write {x e:Addr}{o:HO}{t':Nat} (I:Inv X pins σ H s) (mu:Mut (H x)) (he:e=x\/H e=some (.own x)) (k:∀ b u,b≠e->s.heap.get? b=some u->h'.get? b=some u) (heo:∃ u,h'.get? e=some u)
  (new:ObjOk X.prog X.w (upd H x o) h' x o):Inv X pins σ (upd H x o) { s with heap:=h',toks:=t' }:=I.un (Un.write mu he k heo) (I.hok.write mu he k heo new)
theorem Inv.pins_of {pins':List (Addr × Obj)} (I:Inv X pins σ H s) (h:∀ p∈pins',s.heap.get? p.1=some p.2/\H p.1=none/\p.1≠X.env.locals/\p.1 ∉ X.fs/\∀ v,p.2.data≠.cell v):Inv X pins' σ H s :=
 ⟨I.ok,I.os,I.bare,I.base,I.loc,I.cell,I.free,I.freeC,fun p hp=>(BP.mp hp).elim (fun z=>I.pin p (Du _ z)) (h p),I.hok,I.len⟩
theorem lM {N:List Str} (hN:N.Nodup){x:Str} (a:N[i]?=some x) (b:N[j]?=some x):i=j:=by
 obtain ⟨h1,e1⟩:=BX.mp a;obtain ⟨h2,e2⟩:=BX.mp b;exact (List.getElem_inj hN).mp (e1.trans e2.symm)
theorem lO {M:Model}{A:Around}{E:Value->Shared->Prop}{x:Str}{v:V}{u:Value}{Q:Unit->Shared->Prop} (I:Inv X pins σ H s) (hN:X.N.Nodup) (hi:X.N[i]?=some x) (hx:Loc X.env.scope x) (r:RelV v u)
  (h:∀ s',Inv X pins (σ.set i (some v)) H s'->(∃ a,Heap.SameBut a s.heap s'.heap/\(a=X.env.locals\/X.env.cells.lookup x=some a))->Q () s') (hf:X.fn x=true\/X.env.scope.names.lookup x=some .local:=by first | exact .inl rfl | exact .inr rfl | assumption):wpAny M A (storeName X.env x u) Q E s:=by
 obtain ⟨m,hn,hl⟩:=id I.loc;have hcls:(X.env.scope.kind == .class || (X.env.scope.kind == .module && X.env.locals != X.env.globals))=false:=by rw [I.ok.kind]; rfl
 have hiσ:i < σ.length:=by rw [I.len]; exact (BX.mp hi).1
 have cne:=I.cne;have tracked:∀ {a:Addr}{h':Heap},(∃ o,s.heap.get? a=some o/\H a=none)->Heap.SameBut a s.heap h'->HOk X.prog X.w H h':=fun {a h'} ha hs b ob e=>by
  obtain ⟨_,_,hfree⟩:=ha;refine (I.hok b ob e).stay (fun c w' hc q=>(hs.2 c ?_).trans q) (fun _ q=>q) fun _ _ q=>q
  rintro rfl;rcases hc with rfl | hc
  ·rw [hfree] at e; cases e
  ·rw [hfree] at hc; cases hc
 rcases hx with hk | hk
 ·refine wpAny_storeName_local hk hn (fun h' hn' hs=>?_) hcls
  obtain ⟨oL,_,_,hoL,_⟩:=id hn;refine h _ ⟨I.ok,I.os,I.bare,⟨fun b o e n hb hx=>?_,fun b o e n hb hx=>?_,I.base.free,fun b o e hx=>?_,I.base.tups,I.base.frzs,I.base.tbls⟩,⟨_,hn',fun j y v' e1 e2 e3=>?_⟩,fun y c e=>?_,I.free,I.freeC,fun p hp=>?_,tracked ⟨oL,hoL,I.free⟩ hs,by simpa using I.len⟩ ⟨_,hs,.inl rfl⟩
  ·exact (hs.2 b (BS (Cd (BM e) I.ok.above))).trans (I.base.keep b o e n hb hx)
  ·obtain ⟨sl,e1⟩:=I.base.slot b o e n hb hx
   exact ⟨sl,(hs.2 b (BS (Cd (BM e) I.ok.above))).trans e1⟩
  ·obtain ⟨o',e1⟩:=I.base.there b o e hx
   exact ⟨o',(hs.2 b (BS (Cd (BM e) I.ok.above))).trans e1⟩
  ·by_cases hj:j=i
   ·subst hj
    rw [hi] at e1; cases e1;rw [List.getElem?_set_self hiσ] at e2;cases e2;exact ⟨u,r,.inl ⟨hk,by simp⟩⟩
   ·rw [List.getElem?_set_ne (B1 hj)] at e2
    obtain ⟨u',r',q⟩:=hl j y v' e1 e2 e3;refine ⟨u',r',?_⟩;rcases q with ⟨k,e⟩ | ⟨k,c,e,z⟩
    ·refine .inl ⟨k,?_⟩
     have:y≠x:=fun e=>hj (lM hN e1 (e ▸ hi))
     simp [this,e]
    ·exact .inr ⟨k,c,e,z.sameBut hs (cne y c e)⟩
  ·obtain ⟨w',z⟩:=I.cell y c e
   exact ⟨w',z.sameBut hs (cne y c e)⟩
  ·obtain ⟨e,n,ne,nf,d⟩:=I.pin p hp
   exact ⟨(hs.2 p.1 ne).trans e,n,ne,nf,d⟩
 ·have hfn:X.fn x=true:=by
   rcases hf with z | z
   ·exact z
   ·rw [z] at hk; cases hk
  obtain ⟨c,hc⟩:=I.ok.has x (.inl hk);obtain ⟨w',z⟩:=I.cell x c hc;refine wpAny_storeName_cell I.ok.kind hk hc z (fun h' hc' hs=>?_)
  obtain ⟨oc,hoc,hocd⟩:=id z;refine h { s with heap:=h' } ⟨I.ok,I.os,I.bare,⟨fun b o e n hb hx=>?_,fun b o e n hb hx=>?_,I.base.free,fun b o e hx=>?_,I.base.tups,I.base.frzs,I.base.tbls⟩,⟨m,hn.sameBut hs (B1 (cne x c hc)),fun j y v' e1 e2 e3=>?_⟩,fun y c' e=>?_,I.free,I.freeC,fun p hp=>?_,tracked ⟨oc,hoc,I.freeC x c hc⟩ hs,by simpa using I.len⟩ ⟨c,hs,.inr hc⟩
  ·exact (hs.2 b (BS (Cd (BM e) (I.ok.cab x c hfn hc)))).trans (I.base.keep b o e n hb hx)
  ·obtain ⟨sl,e1⟩:=I.base.slot b o e n hb hx
   exact ⟨sl,(hs.2 b (BS (Cd (BM e) (I.ok.cab x c hfn hc)))).trans e1⟩
  ·obtain ⟨o',e1⟩:=I.base.there b o e hx
   exact ⟨o',(hs.2 b (BS (Cd (BM e) (I.ok.cab x c hfn hc)))).trans e1⟩
  ·by_cases hj:j=i
   ·subst hj
    rw [hi] at e1; cases e1;rw [List.getElem?_set_self hiσ] at e2;cases e2;exact ⟨u,r,.inr ⟨.inl hk,c,hc,hc'⟩⟩
   ·rw [List.getElem?_set_ne (B1 hj)] at e2
    obtain ⟨u',r',q⟩:=hl j y v' e1 e2 e3;refine ⟨u',r',?_⟩;rcases q with q | ⟨k,c',e,z'⟩
    ·exact .inl q
    ·refine .inr ⟨k,c',e,z'.sameBut hs ?_⟩
     rintro rfl;exact hj (lM hN e1 (I.ok.inj _ _ _ e hc ▸ hi))
  ·by_cases hcc:c'=c
   ·subst hcc; exact ⟨_,hc'⟩
   ·obtain ⟨w2,z2⟩:=I.cell y c' e
    exact ⟨w2,z2.sameBut hs hcc⟩
  ·obtain ⟨e,n,ne,nf,d⟩:=I.pin p hp
   refine ⟨(hs.2 p.1 ?_).trans e,n,ne,nf,d⟩;intro q;rw [q,hoc] at e;have q':oc=p.2:=Ca e;exact d w' (by rw [<- q']; exact hocd)
theorem lP {M:Model}{A:Around}{E:Value->Shared->Prop}{x:Str}{v:V}{u:Value}{Q:Unit->Shared->Prop} (I:Inv X pins σ H s) (hN:X.N.Nodup) (hi:X.N[i]?=some x) (hx:Loc X.env.scope x) (r:RelV v u)
  (h:∀ s',Inv X pins (σ.set i (some v)) H s'->Q () s') (hf:X.fn x=true\/X.env.scope.names.lookup x=some .local:=by first | exact .inl rfl | exact .inr rfl | assumption):wpAny M A (storeName X.env x u) Q E s :=
 lO I hN hi hx r (fun s' I' _=>h s' I') hf
theorem Inv.call' (I:Inv X pins σ H s) (ho:s'.os=s.os) (u:Un (frs X.stack) ch H H' s.heap s'.heap) (hok:HOk X.prog X.w H' s'.heap) (hg:AllBare s'.gens)
  (hch:∀ b∈ch,(b∈X.ex\/X.s₀.heap.objs.size<=b)/\b≠X.env.locals/\(∀ x c,X.env.cells.lookup x=some c->c≠b)/\∀ p∈X.pn++pins,p.1≠b):Inv X pins σ H' s':=by
 obtain ⟨h',g',d',t',o'⟩:=s';have e:o'=s.os:=ho;subst e;exact I.call (g':=g') (t':=t') (d':=d') u hok hg hch
end
abbrev XK:=Value->Option Addr->Hp->Prop
abbrev St:=List (Option V)
abbrev VK:=V->Hp->Prop
abbrev TE:=St->Hp->VK->Prop
abbrev TT:=St->Hp->(Bool->Hp->Prop)->Prop
abbrev TA:=St->Hp->(List V->Hp->Prop)->Prop
structure Ends where
 nx:St->Hp->Prop
 rt:VK
 bk:St->Hp->Prop:=fun _ _=>False
 ct:St->Hp->Prop:=fun _ _=>False
abbrev TS:=Ends->St->Hp->Prop
def EP (X:Cx) (pins:List (Addr × Obj)) (σ:St) (Q:VK) (u:Value) (s':Shared):Prop:=∃ v H',Inv X pins σ H' s'/\RelV v u/\Q v H'
def TP (X:Cx) (pins:List (Addr × Obj)) (σ:St) (Q:Bool->Hp->Prop) (b:Bool) (s':Shared):Prop:=∃ H',Inv X pins σ H' s'/\Q b H'
def AP (X:Cx) (pins:List (Addr × Obj)) (σ:St) (Q:List V->Hp->Prop) (us:List Value) (s':Shared):Prop:=∃ vs H',Inv X pins σ H' s'/\Vals vs us/\Q vs H'
def SP (X:Cx) (pins:List (Addr × Obj)) (D:Ends) (f:Flow) (s':Shared):Prop :=
 match f with
 | .next=>∃ σ' H',Inv X pins σ' H' s'/\D.nx σ' H'
 | .brk=>∃ σ' H',Inv X pins σ' H' s'/\D.bk σ' H'
 | .cont=>∃ σ' H',Inv X pins σ' H' s'/\D.ct σ' H'
 | .ret u=>∃ v σ' H',Inv X pins σ' H' s'/\RelV v u/\D.rt v H'
def PE (X:Cx) (e:Expr) (t:TE):Prop :=
 ∀ (pins:List (Addr × Obj)) (s:Shared) (σ:St) (H:Hp) (Q:VK),Inv X pins σ H s->t σ H Q->wpAny (model X.prog X.w) X.A (eval e X.env) (EP X pins σ Q) X.xe s
def PT (X:Cx) (e:Expr) (t:TT):Prop :=
 ∀ (pins:List (Addr × Obj)) (s:Shared) (σ:St) (H:Hp) (Q:Bool->Hp->Prop),Inv X pins σ H s->t σ H Q->wpAny (model X.prog X.w) X.A (isTrue e X.env (eval e X.env)) (TP X pins σ Q) X.xe s
def PW (X:Cx) (e:Expr) (t:TT):Prop :=
 ∀ (whole:Sem Value) (pins:List (Addr × Obj)) (s:Shared) (σ:St) (H:Hp) (Q:Bool->Hp->Prop),Inv X pins σ H s->t σ H Q->wpAny (model X.prog X.w) X.A (isTrue e X.env whole) (TP X pins σ Q) X.xe s
theorem PW.pt{e:Expr}{t:TT} (h:PW X e t):PT X e t:=h _
def PA (X:Cx) (es:List Expr) (t:TA):Prop :=
 ∀ (pos:Pos) (pins:List (Addr × Obj)) (s:Shared) (σ:St) (H:Hp) (Q:List V->Hp->Prop),Inv X pins σ H s->t σ H Q->wpAny (model X.prog X.w) X.A (spliced (backTo pos (starEach es X.env))) (AP X pins σ Q) X.xe s
def PS (X:Cx) (st:Stmt) (t:TS):Prop :=
 ∀ (pins:List (Addr × Obj)) (s:Shared) (σ:St) (H:Hp) (D:Ends),Inv X pins σ H s->t D σ H->wpAny (model X.prog X.w) X.A (exec st X.env) (SP X pins D) X.xe s
def PSs (X:Cx) (st:List Stmt) (t:TS):Prop :=
 ∀ (pins:List (Addr × Obj)) (s:Shared) (σ:St) (H:Hp) (D:Ends),Inv X pins σ H s->t D σ H->wpAny (model X.prog X.w) X.A (execs st X.env) (SP X pins D) X.xe s
theorem thn {α:Type}{t:Sem α}{Q Q':α->Shared->Prop}{E:Value->Shared->Prop} (h:wpAny M A t Q E s) (hQ:∀ a s,Q a s->Q' a s):wpAny M A t Q' E s:=Cf h hQ fun _ _ x=>x
section
variable {X:Cx}
def tVar (i:Nat):TE:=fun σ H Q=>∃ v,σ[i]?=some (some v)/\Q v H
def tC (v:V):TE:=fun _ H Q=>Q v H
theorem tG{x:Str} (hN:X.N[i]?=some x) (hv:Vis X.env.scope x) (hd:(x == ("__debug__" : Str))=false:=by decide) (hcd:(x == ("__classdict__" : Str))=false:=by decide):PE X (.Name x pos) (tVar i):=by
 intro pins s σ H Q I h;obtain ⟨v,e,h⟩:=h;obtain ⟨m,hn,hl⟩:=I.loc;obtain ⟨u,r,l⟩:=hl i x v hN e hv;have fin:EP X pins σ Q u s:=⟨v,H,I,r,h⟩;rcases l with ⟨hk,hm⟩ | ⟨hk,c,hc,hcell⟩
 ·exact wpAny_Name (wpAny_loadName_local I.ok.kind hk hn hm fin) hd
 ·rcases hk with hk | hk
  ·exact wpAny_Name (wpAny_loadName_cell I.ok.kind hk hc hcell fin) hd
  ·exact wpAny_Name (wpAny_loadName_free I.ok.kind hk hc hcell fin hcd) hd
theorem tH {i j pos}:PE X (.Constant (.int i) j pos) (tC (.int i)):=fun _ _ _ H _ I h=>wpAny_Constant_int ⟨.int i,H,I.tok _,⟨_,rfl⟩,h⟩
theorem tJ {b j pos}:PE X (.Constant (.bool b) j pos) (tC (.bl b)):=fun _ _ _ H _ I h=>Constant_bool ⟨.bl b,H,I,rfl,h⟩
theorem tM {j pos}:PE X (.Constant .none j pos) (tC .non):=fun _ _ _ H _ I h=>Constant_none ⟨.non,H,I,rfl,h⟩
theorem tP {x j pos}:PE X (.Constant (.str x) j pos) (tC (.str x)):=fun _ _ _ H _ I h=>Calls.Constant_str ⟨.str x,H,I.tok _,⟨_,rfl⟩,h⟩
def Gl (X:Cx) (x:Str):Prop:=X.env.kindOf x=some .globalImplicit
theorem iM {E:Value->Shared->Prop}{σ:St}{x:Str}{u:Value}{pos:Pos} (I:Inv X pins σ H s) (hg:Gl X x) (hm:X.mg x=some u) (h:Q u s)
  (hd:(x == ("__debug__" : Str))=false:=by decide):wpAny (model X.prog X.w) X.A (eval (.Name x pos) X.env) Q E s :=
 Calls.Name_function_global I.ok.kind hg (Calls.loadGlobal_global (by rw [I.ok.glob]; exact I.mod.glob.keeps I.bk) hm h) hd
theorem dz {E:Value->Shared->Prop}{σ:St}{x:Str}{u:Value}{pos:Pos} (I:Inv X pins σ H s) (hg:Gl X x) (hm:X.mg x=none) (hv:bootBuiltins x=some u) (h:Q u s)
  (hn:x ≠ "__name__" := by decide) (hd:(x == ("__debug__" : Str))=false:=by decide):wpAny (model X.prog X.w) X.A (eval (.Name x pos) X.env) Q E s:=by
 obtain ⟨mb,h1,h2⟩:=I.mod.blt;exact Calls.Name_function_global I.ok.kind hg (Calls.loadGlobal_builtin (by rw [I.ok.glob]; exact I.mod.glob.keeps I.bk) hm (by rw [I.ok.blt]; exact h1.keeps I.bk) ((h2 x hn).trans hv) h) hd
theorem lQ {x:Str}{v:V}{u:Value} (hg:Gl X x) (hm:X.mg x=some u) (r:RelV v u) (hd:(x == ("__debug__" : Str))=false:=by decide):PE X (.Name x pos) (tC v) :=
 fun _ _ _ H _ I h=>iM I hg hm ⟨v,H,I,r,h⟩ hd
theorem tQ {x:Str}{v:V}{u:Value} (hg:Gl X x) (hm:X.mg x=none) (hv:bootBuiltins x=some u) (r:RelV v u) (hn:x ≠ "__name__" := by decide) (hd:(x == ("__debug__" : Str))=false:=by decide):PE X (.Name x pos) (tC v) :=
 fun _ _ _ H _ I h=>dz I hg hm hv ⟨v,H,I,r,h⟩ hn hd
variable {a b:Expr}{ta tb:TE}{pos:Pos}
def PC (X:Cx) (op:CmpOp) (a b:Expr) (t:TE):Prop :=
 ∀ (pins:List (Addr × Obj)) (s:Shared) (σ:St) (H:Hp) (Q:VK),Inv X pins σ H s->t σ H Q ->
  wpAny (model X.prog X.w) X.A (eval a X.env) (fun v s₁=>wpAny (model X.prog X.w) X.A (eval b X.env) (fun u s₂=>wpAny (model X.prog X.w) X.A (compareOp op v u) (EP X pins σ Q) X.xe s₂) X.xe s₁) X.xe s
def tB (t:TE):TT:=fun σ H Q=>t σ H fun x H1=>∃ c,x=.bl c/\Q c H1
theorem tR{t:TE} (h:PC X op a b t) (h1:behindInMarks op b=false:=by first | exact nobehind _ (by decide) (by decide) | rfl):PE X (.Compare a [op] [b] pos) t:=fun pins s σ H Q I hw=>wpAny_Compare1 (h pins s σ H Q I hw) h1
theorem tS{t:TE} (h:PC X op a b t) (h1:behindInMarks op b=false:=by first | exact nobehind _ (by decide) (by decide) | rfl):PT X (.Compare a [op] [b] pos) (tB t):=by
 intro pins s σ H Q I hw;refine wpAny_isTrue_Compare1 (thn (h pins s σ H _ I hw) fun v s1 h1=>thn h1 fun u s2 h2=>thn h2 fun c s3 ⟨x,H1,I1,r1,q1⟩=>?_) h1
 obtain ⟨d,rfl,q⟩:=q1;cases r1;exact wpAny_truthy_bool ⟨H1,I1,q⟩
theorem tU {e:Expr}{t:TE} (h:PE X e t) (he:∀ whole,isTrue e X.env whole=(do let v <- whole; standAt e.pos; holding [v] (truthy v)):=by intro _; rfl):PT X e (tB t):=by
 intro pins s σ H Q I hw;refine isTrue_plain (thn (h pins s σ H _ I hw) fun v s1 ⟨x,H1,I1,r1,q1⟩=>?_) (he _)
 obtain ⟨d,rfl,q⟩:=q1;cases r1;exact wpAny_truthy_bool ⟨H1,I1,q⟩
variable {tA tB':TT}{rest:List Expr}
def tAnd (t u:TT):TT:=fun σ H Q=>t σ H fun c H1=>if c=true then u σ H1 Q else Q false H1
def tOr (t u:TT):TT:=fun σ H Q=>t σ H fun c H1=>if c=true then Q true H1 else u σ H1 Q
def tNot (t:TT):TT:=fun σ H Q=>t σ H fun c H1=>Q (!c) H1
theorem tV (ha:PT X a tA):PW X (.BoolOp .And [a] pos) tA:=by
 intro wh pins s σ H Q I h;refine isTrue_and (thn (ha pins s σ H Q I h) fun c s1 e=>?_)
 cases c with
 | true=>exact isTrue_and_nil e
 | false=>exact e
theorem tW (ha:PT X a tA):PW X (.BoolOp .Or [a] pos) tA:=by
 intro wh pins s σ H Q I h;refine isTrue_or (thn (ha pins s σ H Q I h) fun c s1 e=>?_)
 cases c with
 | false=>exact isTrue_or_nil e
 | true=>exact e
theorem tX (ha:PT X a tA) (hb:PW X (.BoolOp .And (b :: rest) pos) tB'):PW X (.BoolOp .And (a :: b :: rest) pos) (tAnd tA tB'):=by
 intro wh pins s σ H Q I h;refine isTrue_and (thn (ha pins s σ H _ I h) fun c s1 ⟨H1,I1,q1⟩=>?_)
 cases c with
 | true=>exact hb wh pins s1 σ H1 Q I1 q1
 | false=>exact ⟨H1,I1,q1⟩
theorem tY (ha:PT X a tA) (hb:PW X (.BoolOp .Or (b :: rest) pos) tB'):PW X (.BoolOp .Or (a :: b :: rest) pos) (tOr tA tB'):=by
 intro wh pins s σ H Q I h;refine isTrue_or (thn (ha pins s σ H _ I h) fun c s1 ⟨H1,I1,q1⟩=>?_)
 cases c with
 | true=>exact ⟨H1,I1,q1⟩
 | false=>exact hb wh pins s1 σ H1 Q I1 q1
theorem tZ (ha:PT X a tA):PT X (.UnaryOp .Not a pos) (tNot tA):=by
 intro pins s σ H Q I h;exact isTrue_not (ha pins s σ H (fun c H1=>Q (!c) H1) I h)
def tAndV (ta tb:TE):TE:=fun σ H Q=>ta σ H fun x H1=>∃ c,x=.bl c/\if c=true then tb σ H1 Q else Q (.bl false) H1
def tNotV (ta:TE):TE:=fun σ H Q=>ta σ H fun x H1=>∃ c,x=.bl c/\Q (.bl (!c)) H1
theorem t4 {op}{t:TE} (h:PE X a t):PE X (.BoolOp op [a] pos) t:=fun pins s σ H Q I hw=>BoolOp_one (h pins s σ H Q I hw)
theorem t8 (ha:PE X a ta) (hb:PE X (.BoolOp .And (b :: rest) pos) tb):PE X (.BoolOp .And (a :: b :: rest) pos) (tAndV ta tb):=by
 intro pins s σ H Q I h;refine BoolOp_and (thn (ha pins s σ H _ I h) fun v s1 ⟨x,H1,I1,r1,q1⟩=>?_)
 obtain ⟨c,rfl,q1⟩:=q1;cases r1;refine wpAny_truthy_bool ?_;cases c with
 | true=>exact hb pins s1 σ H1 Q I1 q1
 | false=>exact ⟨.bl false,H1,I1,rfl,q1⟩
theorem ua (ha:PE X a ta):PE X (.UnaryOp .Not a pos) (tNotV ta):=by
 intro pins s σ H Q I h;refine UnaryOp_ (thn (ha pins s σ H _ I h) fun v s1 ⟨x,H1,I1,r1,q1⟩=>?_)
 obtain ⟨c,rfl,q1⟩:=q1;cases r1;exact not_of (wpAny_truthy_bool ⟨.bl (!c),H1,I1,rfl,q1⟩)
def tIf (t:TT) (ta tb:TE):TE:=fun σ H Q=>t σ H fun c H1=>if c=true then ta σ H1 Q else tb σ H1 Q
theorem ub {c:Expr} (hc:PT X c tA) (ha:PE X a ta) (hb:PE X b tb):PE X (.IfExp c a b pos) (tIf tA ta tb):=by
 intro pins s σ H Q I h;refine wpAny_IfExp (thn (hc pins s σ H _ I h) fun d s1 ⟨H1,I1,q1⟩=>?_)
 cases d with
 | true=>exact ha pins s1 σ H1 Q I1 q1
 | false=>exact hb pins s1 σ H1 Q I1 q1
end
def SqL (K:PySem.W.Frag) (H:Hp) (a:Addr) (xs:List V):Prop :=
 Rd H a (.lst xs) \/
  ∃ (o:Obj) (its:Array Value) (n:Nat),K.lookup a=some o/\o.cls=.type "list" /\ o.dict=none/\o.data=.seq its n/\its.size<=sizeLine/\Vals xs its.toList
def SqT (K:PySem.W.Frag) (H:Hp) (a:Addr) (xs:List V):Prop :=
 Rd H a (.tup xs) \/
  ∃ (o:Obj) (its:Array Value) (n:Nat),K.lookup a=some o/\o.cls=.type "tuple" /\ o.data=.seq its n/\its.size<=sizeLine/\Vals xs its.toList
def absV:Value->Option V
 | .none=>some .non
 | .bool b=>some (.bl b)
 | .int i _=>some (.int i)
 | .str x _=>some (.str x)
 | .bytes b _=>some (.byt b)
 | .float b _=>some (.flt b)
 | .ref a=>some (.ref a)
 | .type n=>some (.ty n)
 | _=>none
theorem RelV.abs {x:V}{u:Value} (r:RelV x u):absV u=some x:=by
 cases x with
 | non=>cases r; rfl
 | bl _=>cases r; rfl
 | int _=>obtain ⟨t,rfl⟩:=r; rfl
 | str _=>obtain ⟨t,rfl⟩:=r; rfl
 | byt _=>obtain ⟨t,rfl⟩:=r; rfl
 | flt _=>obtain ⟨t,rfl⟩:=r; rfl
 | ref _=>cases r; rfl
 | ty _=>cases r; rfl
theorem RelV.inj {x:V}{u:Value} (r:RelV x u) (q:RelV y u):x=y:=Ca (r.abs.symm.trans q.abs)
theorem Vals.inj:∀ {xs ys:List V}{us:List Value},Vals xs us->Vals ys us->xs=ys
 | _,_,_,.nil,.nil=>rfl
 | _,_,_,.cons r t,.cons r' t'=>by rw [r.inj r',Vals.inj t t']
section
variable {X:Cx}{pins:List (Addr × Obj)}{σ:St}{H:Hp}{s:Shared}{a:Addr}{xs ys:List V}
theorem SqL.of (h:H a=some (.lst xs)):SqL K H a xs:=.inl (.inl h)
theorem SqT.of (h:H a=some (.tup xs)):SqT K H a xs:=.inl (.inl h)
theorem Inv.list (I:Inv X pins σ H s) (h:SqL X.K H a xs):∃ its:List Value,Vals xs its/\PlainL s.heap a its.toArray/\xs.length<=sizeLine:=by
 rcases h with h | ⟨o,its,n,hk,hc,hd,hs,hz,r⟩
 ·obtain ⟨z,its,n,r,e⟩:=h.ok I.hok
  exact ⟨its,r,⟨_,n,e,rfl,rfl,rfl⟩,z⟩
 ·refine ⟨its.toList,r,⟨o,n,I.kIn a o hk,hc,hd,by simpa using hs⟩,?_⟩
  have e:=r.length;simp only [Array.length_toList] at e;omega
theorem Inv.tuple (I:Inv X pins σ H s) (h:SqT X.K H a xs):∃ its:List Value,Vals xs its/\IsTup s.heap a its.toArray/\xs.length<=sizeLine:=by
 rcases h with h | ⟨o,its,n,hk,hc,hs,hz,r⟩
 ·obtain ⟨z,its,r,p⟩:=h.ok I.hok
  exact ⟨its,r,p,z⟩
 ·refine ⟨its.toList,r,⟨o,I.kIn a o hk,hc,n,by simpa using hs⟩,?_⟩
  have e:=r.length;simp only [Array.length_toList] at e;omega
theorem Inv.list_inj (I:Inv X pins σ H s) (h:SqL X.K H a xs) (h':SqL X.K H a ys):xs=ys:=by
 obtain ⟨its,r,⟨o,n,e,_,_,d⟩,_⟩:=I.list h;obtain ⟨its',r',⟨o',n',e',_,_,d'⟩,_⟩:=I.list h';rw [e] at e'; cases e';rw [d] at d';injection d' with d1 _
 have:its=its':=by simpa using Cs Array.toList d1
 subst this;exact r.inj r'
theorem Inv.tuple_inj (I:Inv X pins σ H s) (h:SqT X.K H a xs) (h':SqT X.K H a ys):xs=ys:=by
 obtain ⟨its,r,⟨o,e,_,n,d⟩,_⟩:=I.tuple h;obtain ⟨its',r',⟨o',e',_,n',d'⟩,_⟩:=I.tuple h';rw [e] at e'; cases e';rw [d] at d';injection d' with d1 _
 have:its=its':=by simpa using Cs Array.toList d1
 subst this;exact r.inj r'
end
abbrev Cx.wish (X:Cx) (E:Value->Shared->Prop):Cx:={ X with xe:=E }
abbrev Cx.nox (X:Cx):Cx:=X.wish fun _ _=>False
theorem Cx.Ok.wish (ok:X.Ok) (E:Value->Shared->Prop):(X.wish E).Ok :=
 ⟨ok.mod,ok.kind,ok.glob,ok.blt,ok.above,ok.inj,ok.has,ok.cab,ok.hd,ok.frames,ok.stk,ok.exf,ok.bs,ok.bsz,ok.noex,ok.exfs,ok.funs,ok.frf⟩
theorem Cx.Ok.unwish{E:Value->Shared->Prop} (ok:(X.wish E).Ok):X.Ok :=
 ⟨ok.mod,ok.kind,ok.glob,ok.blt,ok.above,ok.inj,ok.has,ok.cab,ok.hd,ok.frames,ok.stk,ok.exf,ok.bs,ok.bsz,ok.noex,ok.exfs,ok.funs,ok.frf⟩
section
variable {X:Cx}{pins:List (Addr × Obj)}{σ:St}{H:Hp}{s:Shared}{E:Value->Shared->Prop}
theorem Inv.wish (I:Inv X pins σ H s) (E:Value->Shared->Prop):Inv (X.wish E) pins σ H s:=⟨I.ok.wish E,I.os,I.bare,I.base,I.loc,I.cell,I.free,I.freeC,I.pin,I.hok,I.len⟩
theorem Inv.unwish (I:Inv (X.wish E) pins σ H s):Inv X pins σ H s:=⟨I.ok.unwish,I.os,I.bare,I.base,I.loc,I.cell,I.free,I.freeC,I.pin,I.hok,I.len⟩
theorem SP.unwish{f:Flow} (h:SP (X.wish E) pins D f s'):SP X pins D f s':=by
 cases f with
 | next=>obtain ⟨σ',H',I,q⟩:=h; exact ⟨σ',H',I.unwish,q⟩
 | brk=>obtain ⟨σ',H',I,q⟩:=h; exact ⟨σ',H',I.unwish,q⟩
 | cont=>obtain ⟨σ',H',I,q⟩:=h; exact ⟨σ',H',I.unwish,q⟩
 | ret u=>obtain ⟨v,σ',H',I,r,q⟩:=h; exact ⟨v,σ',H',I.unwish,r,q⟩
theorem PSs.nox {st:List Stmt}{t:TS} (h:PSs X.nox st t):PSs X st t:=fun pins s σ H D I hw =>
 Cf (h pins s σ H D (I.wish _) hw) (fun _ _ q=>q.unwish) fun _ _ z=>False.elim z
end
section
variable {X:Cx}{st:Stmt}{rest:List Stmt}{t u:TS}{e:Expr}{te:TE}{pos:Pos}
def tNext:TS:=fun D σ H=>D.nx σ H
def tSeq (t u:TS):TS:=fun D σ H=>t { D with nx:=u D } σ H
theorem uc:PSs X [] tNext:=fun _ _ σ H _ I h=>wpAny_execs_nil ⟨σ,H,I,h⟩
theorem lT (h1:PS X st t) (h2:PSs X rest u):PSs X (st :: rest) (tSeq t u):=by
 intro pins s σ H D I h;refine wpAny_execs_cons (thn (h1 pins s σ H { D with nx:=u D } I h) fun f s1 q=>?_)
 cases f with
 | next =>
  obtain ⟨σ',H',I',q⟩:=q;exact h2 pins s1 σ' H' D I' q
 | ret v=>exact q
 | brk=>exact q
 | cont=>exact q
theorem ud (h1:PS X st t):PSs X [st] t:=by
 intro pins s σ H D I h;refine wpAny_execs_cons (thn (h1 pins s σ H D I h) fun f s1 q=>?_)
 cases f with
 | next=>exact wpAny_execs_nil q
 | ret v=>exact q
 | brk=>exact q
 | cont=>exact q
theorem Inv.quiet {pins:List (Addr × Obj)}{σ:St}{H:Hp}{s:Shared} (I:Inv X pins σ H s):interactive X.env=false:=by simp [interactive,I.ok.kind]
def tDrop (te:TE):TS:=fun D σ H=>te σ H fun _ H1=>D.nx σ H1
theorem ue (he:PE X e te) (hs:swapsWith e none pos.line X.env=pure false:=by rfl):PS X (.Expr e pos) (tDrop te):=by
 intro pins s σ H D I h;exact wpAny_Expr_any (thn (he pins s σ H _ I h) fun v s1 ⟨x,H1,I1,r1,q1⟩=>⟨σ,H1,I1,q1⟩) I.quiet hs
def tRet (te:TE):TS:=fun D σ H=>te σ H D.rt
theorem uf (he:PE X e te):PS X (.Return (some e) pos) (tRet te):=by
 intro pins s σ H D I h;exact wpAny_Return_some (thn (he pins s σ H _ I h) fun v s1 ⟨x,H1,I1,r1,q1⟩=>⟨x,σ,H1,I1,r1,q1⟩)
def tIfS (c:TT) (t u:TS):TS:=fun D σ H=>c σ H fun b H1=>if b=true then t D σ H1 else u D σ H1
theorem ug {c:Expr}{a b:List Stmt}{tc:TT} (hc:PT X c tc) (ha:PSs X a t) (hb:PSs X b u):PS X (.If c a b pos) (tIfS tc t u):=by
 intro pins s σ H D I h;refine wpAny_If (thn (hc pins s σ H _ I h) fun d s1 ⟨H1,I1,q1⟩=>?_)
 cases d with
 | true=>exact ha pins s1 σ H1 D I1 q1
 | false=>exact hb pins s1 σ H1 D I1 q1
def tNever:TS:=fun _ _ _=>False
theorem uh:PS X st tNever:=fun _ _ _ _ _ _ h=>h.elim
end
abbrev TG:=V->St->Hp->(St->Hp->Prop)->Prop
abbrev TGs:=List V->St->Hp->(St->Hp->Prop)->Prop
def PG (X:Cx) (target:Expr) (t:TG):Prop :=
 ∀ (pins:List (Addr × Obj)) (s:Shared) (σ:St) (H:Hp) (v:V) (u:Value) (Q:St->Hp->Prop),Inv X pins σ H s->RelV v u->t v σ H Q ->
  wpAny (model X.prog X.w) X.A (assign target X.env u) (fun _ s'=>∃ σ' H',Inv X pins σ' H' s'/\Q σ' H') X.xe s
def PGs (X:Cx) (ts:List Expr) (t:TGs):Prop :=
 ∀ (pins:List (Addr × Obj)) (s:Shared) (σ:St) (H:Hp) (vs:List V) (us:List Value) (Q:St->Hp->Prop),Inv X pins σ H s->Vals vs us->t vs σ H Q ->
  wpAny (model X.prog X.w) X.A (assignInOrder ((assignEach ts X.env).map (·.2)) us) (fun _ s'=>∃ σ' H',Inv X pins σ' H' s'/\Q σ' H') X.xe s
abbrev TSet:=V->V->V->Hp->(Hp->Prop)->Prop
def PSet (X:Cx) (t:TSet):Prop :=
 ∀ (pins:List (Addr × Obj)) (s:Shared) (σ:St) (H:Hp) (o i v:V) (ov iv u:Value) (Q:Hp->Prop),Inv X pins σ H s->RelV o ov->RelV i iv->RelV v u->t o i v H Q ->
  wpAny (model X.prog X.w) X.A (setItem ov iv u) (fun _ s'=>∃ H',Inv X pins σ H' s'/\Q H') X.xe s
section
variable {X:Cx}{pos:Pos}
def gName (i:Nat):TG:=fun v σ H Q=>Q (σ.set i (some v)) H
theorem ui{x:Str} (hN:X.N.Nodup) (hi:X.N[i]?=some x) (hx:Loc X.env.scope x) (hf:X.fn x=true\/X.env.scope.names.lookup x=some .local:=by first | exact .inl rfl | exact .inr rfl | assumption):PG X (.Name x pos) (gName i):=by
 intro pins s σ H v u Q I r h;exact wpAny_assign_Name (lP I hN hi hx r (fun s' I'=>⟨_,H,I',h⟩) hf)
def gNil:TGs:=fun vs σ H Q=>vs=[]/\Q σ H
def gCons (t:TG) (u:TGs):TGs:=fun vs σ H Q=>∃ v r,vs=v :: r/\t v σ H fun σ' H'=>u r σ' H' Q
theorem uj:PGs X [] gNil:=by
 intro pins s σ H vs us Q I r h;obtain ⟨e,h⟩:=h;subst e;cases r;exact assignInOrder_nil ⟨σ,H,I,h⟩
theorem uk {e:Expr}{t:TG}{u:TGs} (h1:PG X e t) (h2:PGs X es u)
  (hs:(assignEach (e :: es) X.env).map (·.2)=assign e X.env :: (assignEach es X.env).map (·.2):=by rfl):PGs X (e :: es) (gCons t u):=by
 intro pins s σ H vs us Q I r h;obtain ⟨v,vr,e1,h⟩:=h;subst e1;cases r with
 | cons r rr =>
  rw [hs];refine assignInOrder_cons (thn (h1 pins s σ H _ _ _ I r h) fun _ s1 ⟨σ1,H1,I1,q1⟩=>?_)
  exact h2 pins s1 σ1 H1 _ _ Q I1 rr q1
def gTup (K:PySem.W.Frag) (n:Nat) (t:TGs):TG:=fun v σ H Q=>∃ a xs,v=.ref a/\SqT K H a xs/\xs.length=n/\t xs σ H Q
theorem lU{k:Nat}{t:TGs}{n:Nat} (hc:X.calm=true) (h:PGs X es t)
  (hn:(assignEach es X.env).length=n:=by rfl) (hst:(assignEach es X.env).findIdx? (·.1)=none:=by rfl):PG X (.Tuple es k pos) (gTup X.K n t):=by
 intro pins s σ H v u Q I r hw;obtain ⟨a,xs,e1,hq,hl,hw⟩:=hw;subst e1;cases r;obtain ⟨its,rv,ht,hz⟩:=I.tuple hq;refine assign_Tuple_tuple (I.ok.hd hc) ht (by simp [hn,<- hl,rv.length]) hst fun h' hx=>?_
 have I1:Inv X pins σ H { s with heap:=h' }:=I.kept (t':=s.toks) fun b o e=>hx b o (BS (BM e)) e
 exact h pins _ σ H xs _ Q I1 (by simpa using rv) hw
def gSub (to ti:TE) (t:TSet):TG:=fun v σ H Q=>to σ H fun o H1=>ti σ H1 fun i H2=>t o i v H2 fun H3=>Q σ H3
theorem um {o i:Expr}{to ti:TE}{t:TSet} (ho:PE X o to) (hi:PE X i ti) (hs:PSet X t)
  (ha:∀ v,assign (.Subscript o i pos) X.env v=(do
   let ov <- holding [v] (eval o X.env)
   let iv <- holding [v,ov] (eval i X.env)
   standAt pos
   holding [v,ov,iv] (setItem ov iv v)
   release [v,ov,iv] []):=by intro _; rfl):PG X (.Subscript o i pos) (gSub to ti t):=by
 intro pins s σ H v u Q I r h;rw [ha];refine BE (Cz (thn (ho pins s σ H _ I h) fun ov s1 ⟨x,H1,I1,r1,q1⟩=>?_))
 refine BE (Cz (thn (hi pins s1 σ H1 _ I1 q1) fun iv s2 ⟨y,H2,I2,r2,q2⟩=>?_))
 refine BE (wpAny_standAt (BE (Cz (thn (hs pins s2 σ H2 x y v ov iv u _ I2 r1 r2 r q2) fun _ s3 ⟨H3,I3,q3⟩=>?_))))
 exact wpAny_release ⟨σ,H3,I3,q3⟩
def tAsg (te:TE) (g:TG):TS:=fun D σ H=>te σ H fun x H1=>g x σ H1 D.nx
theorem uo {e:Expr} (he:PE X e te) (hg:PG X tg g) (hs:swapsWithSole [tg] e pos.line X.env=pure false:=by rfl) (hw:swappedStores [tg] e X.env=pure none:=by rfl)
  (h1:(assignEach [tg] X.env).map (·.2)=[assign tg X.env]:=by rfl):PS X (.Assign [tg] e pos) (tAsg te g):=by
 intro pins s σ H D I h;refine wpAny_Assign_stores (thn (he pins s σ H _ I h) fun v s1 ⟨x,H1,I1,r1,q1⟩=>?_) hs hw
 rw [h1];exact thn (hg pins s1 σ H1 x v _ I1 r1 q1) fun _ s2 q=>q
theorem uq{x:Str}{e:Expr}{pos':Pos} (hN:X.N.Nodup) (hi:X.N[i]?=some x) (hx:Loc X.env.scope x) (he:PE X e te) (hs:swapsWith e (some (.Name x pos')) pos.line X.env=pure false:=by rfl) (hf:X.fn x=true\/X.env.scope.names.lookup x=some .local:=by first | exact .inl rfl | exact .inr rfl | assumption) :
  PS X (.Assign [.Name x pos'] e pos) (tAsg te (gName i)):=by
 intro pins s σ H D I h;refine wpAny_Assign_Name (thn (he pins s σ H _ I h) fun v s1 ⟨y,H1,I1,r1,q1⟩=>?_) hs
 exact lP I1 hN hi hx r1 (fun s2 I2=>⟨_,H1,I2,q1⟩) hf
def tWhile (c:TT) (tb:TS):TS:=fun D σ H=>∃ W:Nat->St->Hp->Prop,(∃ m,W m σ H)/\∀ m σ H,W m σ H ->
 c σ H fun b H1=>if b=true then ∃ N:St->Hp->Prop,(∀ σ' H',N σ' H'->∃ m',m' < m/\W m' σ' H')/\tb { D with nx:=N,ct:=N,bk:=D.nx } σ H1 else D.nx σ H1
theorem ur {c:Expr}{tc:TT}{tb:TS} (hp:PassesOwn (model X.prog X.w) X.A X.env X.xe) (hc:PT X c tc) (hb:PSs X body tb):PS X (.While c body [] pos) (tWhile tc tb):=by
 intro pins s σ H D I h;obtain ⟨W,⟨m0,w0⟩,turn⟩:=h;refine wpAny_While (codeAny_whileLoop (fun n s'=>∃ σ' H',Inv X pins σ' H' s'/\W n σ' H') ?_ m0 ⟨σ,H,I,w0⟩)
 rintro n s1 ⟨σ1,H1,I1,w1⟩;refine wpAny_passesOwn hp (thn (hc pins s1 σ1 H1 _ I1 (turn n σ1 H1 w1)) fun b s2 ⟨H2,I2,q2⟩=>?_)
 cases b with
 | true =>
  obtain ⟨N,hN,q2⟩:=q2;rw [if_pos rfl];refine wpAny_passesOwn hp (thn (hb pins s2 σ1 H2 _ I2 q2) fun f s3 q3=>?_)
  cases f with
  | next =>
   obtain ⟨σ3,H3,I3,n3⟩:=q3;obtain ⟨m',hm,w3⟩:=hN σ3 H3 n3;exact ⟨m',hm,σ3,H3,I3,w3⟩
  | cont =>
   obtain ⟨σ3,H3,I3,n3⟩:=q3;obtain ⟨m',hm,w3⟩:=hN σ3 H3 n3;exact ⟨m',hm,σ3,H3,I3,w3⟩
  | brk=>exact q3
  | ret v=>exact q3
 | false =>
  rw [if_neg B9];exact wpAny_execs_nil ⟨σ1,H2,I2,q2⟩
end
structure It where
 go:Nat->Hp->Prop
 yld:Nat->Hp->V->Hp->Prop
 stop:Nat->Hp->Prop
def FpOk (X:Cx) (pins:List (Addr × Obj)) (H:Hp) (b:Addr):Prop :=
 H b=none/\b≠X.env.locals/\b ∉ X.fs/\(b∈X.ex\/X.s₀.heap.objs.size<=b)/\(∀ x c,X.env.cells.lookup x=some c->c≠b)/\∀ p∈X.pn++pins,p.1≠b
theorem Inv.fpOk{σ:St}{H H':Hp}{s:Shared}{b:Addr} (I:Inv X pins σ H s) (hb:s.heap.objs.size<=b) (hn:H' b=none):FpOk X pins H' b:=by
 refine ⟨hn,CJ (Cd I.lt hb),I.nofs hb,.inr (B7 I.sz hb),fun x c e z=>?_,fun p hp z=>?_⟩
 ·obtain ⟨v,q⟩:=I.cell x c e
  exact absurd (Cd q.lt (by rw [z]; exact hb)) (C4 _)
 ·exact absurd (Cd (BM (I.pin p hp).1) (by rw [z]; exact hb)) (C4 _)
structure Turn (P:Program) (w:World) (K:PySem.W.Frag) (tg:Expr) (J:It) (fp:List Addr) (it:Addr) (tn:Nat->Heap->Prop):Prop where
 mem:it∈fp
 obj:∀ i h,tn i h->∀ b∈fp,∃ o,h.get? b=some o/\∀ v,o.data≠.cell v
 keep:∀ i h h',tn i h->(∀ b∈fp,∀ o,h.get? b=some o->h'.get? b=some o)->tn i h'
 item:∀ (X:Cx),X.prog=P->X.w=w->X.K=K->X.calm=true->∀ (i:Nat) (pins:List (Addr × Obj)) (s:Shared) (σ:St) (H:Hp) (E:Value->Shared->Prop),Inv X pins σ H s->(∀ b∈fp,FpOk X pins H b)->tn i s.heap->J.go i H ->
  wpAny (model P w) X.A (pyNext (.ref it)) (fun r s1=>∃ u,r=some u /\
   wpAny (model P w) X.A (letOwnedTupleGo tg (.ref it) u) (fun _ s2=>∃ x H',Inv X pins σ H' s2/\RelV x u/\J.yld i H x H'/\tn (i + 1) s2.heap/\∀ b∈fp,H' b=none) E s1) E s
 done:∀ (X:Cx),X.prog=P->X.w=w->X.K=K->X.calm=true->∀ (i:Nat) (pins:List (Addr × Obj)) (s:Shared) (σ:St) (H:Hp) (E:Value->Shared->Prop),Inv X pins σ H s->(∀ b∈fp,FpOk X pins H b)->tn i s.heap->J.stop i H ->
  wpAny (model P w) X.A (pyNext (.ref it)) (fun r s1=>r=none/\Inv X pins σ H s1) E s
 self:∀ (A:Around) (i:Nat) (s:Shared) (Q:Value->Shared->Prop) (E:Value->Shared->Prop),tn i s.heap->Q (.ref it) s->wpAny (model P w) A (pyIter (.ref it)) Q E s
abbrev TI:=St->Hp->(It->Hp->Prop)->Prop
def PIE (X:Cx) (pins:List (Addr × Obj)) (σ:St) (tg:Expr) (R:It->Hp->Prop) (itv:Value) (s2:Shared):Prop :=
 ∃ (it:Addr) (fp:List Addr) (tn:Nat->Heap->Prop) (J:It) (H':Hp),itv=.ref it/\Inv X pins σ H' s2/\Turn X.prog X.w X.K tg J fp it tn/\tn 0 s2.heap/\(∀ b∈fp,FpOk X pins H' b)/\R J H'
def PI (X:Cx) (tg iter:Expr) (wi:TI):Prop :=
 ∀ (pins:List (Addr × Obj)) (s:Shared) (σ:St) (H:Hp) (R:It->Hp->Prop),Inv X pins σ H s->wi σ H R ->
  wpAny (model X.prog X.w) X.A (eval iter X.env) (fun v s1=>wpAny (model X.prog X.w) X.A (pyIter v) (PIE X pins σ tg R) X.xe s1) X.xe s
theorem fi {M:Model}{A:Around}{E:Value->Shared->Prop}{s:Shared}{tg:Expr}{it:Addr}{u:Value}{o:Obj}{n:String}{vs:Array Value}{Q:Unit->Shared->Prop} (ho:s.heap.get? it=some o) (hc:o.cls=.type n) (hd:o.data=.fields vs)
  (hn:["enumerate", "zip", "dict_itemiterator", "dict_reverseitemiterator", "odict_iterator", "itertools.zip_longest", "itertools.pairwise"].contains n=false) (hQ:Q () s):wpAny M A (letOwnedTupleGo tg (.ref it) u) Q E s:=by
 unfold letOwnedTupleGo;cases tg <;> first
  | exact BG hQ
  | (cases u <;> first
    | exact BG hQ
    | (refine BE (wpAny_load ho ?_)
       rw [hc,hd];show wpAny M A (if (["enumerate", "zip", "dict_itemiterator", "dict_reverseitemiterator", "odict_iterator", "itertools.zip_longest", "itertools.pairwise"].contains n && vs[0]? == some (rawInt _))=true then _ else _) Q E s;rw [if_neg (by intro h; rw [hn,Bool.false_and] at h; cases h)]
       exact BG hQ))
def Itl (K:PySem.W.Frag) (a:Addr):It :=
 ⟨fun i H=>∃ xs x,SqL K H a xs/\xs[i]?=some x,fun i H x H'=>H'=H/\∀ xs,SqL K H a xs->xs[i]?=some x,fun i H=>∃ xs,SqL K H a xs/\xs.length<=i⟩
def Itt (K:PySem.W.Frag) (a:Addr):It :=
 ⟨fun i H=>∃ xs x,SqT K H a xs/\xs[i]?=some x,fun i H x H'=>H'=H/\∀ xs,SqT K H a xs->xs[i]?=some x,fun i H=>∃ xs,SqT K H a xs/\xs.length<=i⟩
def Itr (lo:Int) (n:Nat):It:=⟨fun i _=>i < n,fun i H x H'=>H'=H/\x=.int (lo + i),fun i _=>n<=i⟩
theorem uv (a it:Addr):Turn P w K tg (Itl K a) [it] it (fun i h=>h.IsListIter it a i) where
 mem:=by simp
 obj:=fun i h st b hb=>by
  have e:b=it:=by simpa using hb
  subst e;obtain ⟨o,e,c,d⟩:=st;exact ⟨o,e,fun v z=>by rw [d] at z; cases z⟩
 keep:=fun i h h' st k=>st.at fun o e=>k it (by simp) o e
 item:=by
  intro X hP hw hK hc i pins s σ H E I hf st hg;subst hP hw hK;obtain ⟨xs,x,hq,hx⟩:=hg;obtain ⟨its,rv,p,hz⟩:=I.list hq;obtain ⟨u,hu,ru⟩:=rv.get hx;obtain ⟨f0,f1,f2,f3,f4,f5⟩:=hf it (by simp)
  refine wpAny_pyNext_list_item st p.isList (x:=u) (by simpa using hu) fun h' st' sb=>?_
  have I1:Inv X pins σ H { s with heap:=h' }:=I.turned (t':=s.toks) (fun b o hb e=>(sb.2 b hb).trans e) f0 f1 f3 f4 f5
  obtain ⟨o,e,c,d⟩:=id st';exact ⟨u,rfl,fi (s:={ s with heap:=h' }) e c d (by decide) ⟨x,H,I1,ru,⟨rfl,fun ys hy=>by rw [I.list_inj hy hq]; exact hx⟩,st',fun b hb=>(hf b hb).1⟩⟩
 done:=by
  intro X hP hw hK hc i pins s σ H E I hf st hg;subst hP hw hK;obtain ⟨xs,hq,hx⟩:=hg;obtain ⟨its,rv,p,hz⟩:=I.list hq;obtain ⟨f0,f1,f2,f3,f4,f5⟩:=hf it (by simp)
  have hl:=rv.length;exact wpAny_pyNext_list_end (I.ok.hd hc) st p.isList (by simp; omega) fun h' eb=>⟨rfl,I.turned (t':=s.toks) (fun b o hb e=>eb b o hb e) f0 f1 f3 f4 f5⟩
 self:=fun _ _ _ _ _ st h=>wpAny_pyIter_listiter st h
theorem uw (a it:Addr):Turn P w K tg (Itt K a) [it] it (fun i h=>h.IsTupleIter it a i) where
 mem:=by simp
 obj:=fun i h st b hb=>by
  have e:b=it:=by simpa using hb
  subst e;obtain ⟨o,e,c,d⟩:=st;exact ⟨o,e,fun v z=>by rw [d] at z; cases z⟩
 keep:=fun i h h' st k=>st.at fun o e=>k it (by simp) o e
 item:=by
  intro X hP hw hK hc i pins s σ H E I hf st hg;subst hP hw hK;obtain ⟨xs,x,hq,hx⟩:=hg;obtain ⟨its,rv,p,hz⟩:=I.tuple hq;obtain ⟨u,hu,ru⟩:=rv.get hx;obtain ⟨f0,f1,f2,f3,f4,f5⟩:=hf it (by simp)
  refine wpAny_pyNext_tuple_item st (show s.heap.IsTuple a its.toArray from p) (x:=u) (by simpa using hu) fun h' st' sb=>?_
  have I1:Inv X pins σ H { s with heap:=h' }:=I.turned (t':=s.toks) (fun b o hb e=>(sb.2 b hb).trans e) f0 f1 f3 f4 f5
  obtain ⟨o,e,c,d⟩:=id st';exact ⟨u,rfl,fi (s:={ s with heap:=h' }) e c d (by decide) ⟨x,H,I1,ru,⟨rfl,fun ys hy=>by rw [I.tuple_inj hy hq]; exact hx⟩,st',fun b hb=>(hf b hb).1⟩⟩
 done:=by
  intro X hP hw hK hc i pins s σ H E I hf st hg;subst hP hw hK;obtain ⟨xs,hq,hx⟩:=hg;obtain ⟨its,rv,p,hz⟩:=I.tuple hq;obtain ⟨f0,f1,f2,f3,f4,f5⟩:=hf it (by simp)
  have hl:=rv.length;exact wpAny_pyNext_tuple_end (I.ok.hd hc) st (show s.heap.IsTuple a its.toArray from p) (by simp; omega) fun h' eb=>⟨rfl,I.turned (t':=s.toks) (fun b o hb e=>eb b o hb e) f0 f1 f3 f4 f5⟩
 self:=fun _ _ _ _ _ st h=>wpAny_pyIter_tupleiter st h
theorem ux (it:Addr) (lo:Int) (n:Nat):Turn P w K tg (Itr lo n) [it] it (fun i h=>IsRangeIter h it (lo + (i:Nat) * 1) ((n:Int) - (i:Nat)) 1) where
 mem:=by simp
 obj:=fun i h st b hb=>by
  have e:b=it:=by simpa using hb
  subst e;exact ⟨_,st,fun v z=>by
   have z':Data.fields _=Data.cell v:=z;cases z'⟩
 keep:=fun i h h' st k=>k it (by simp) _ st
 item:=by
  intro X hP hw hK hc i pins s σ H E I hf st hg;subst hP hw hK;obtain ⟨f0,f1,f2,f3,f4,f5⟩:=hf it (by simp)
  have W:=Walks.range (prog:=X.prog) (w:=X.w) (I.ok.hd hc) it lo 1 n;refine W.item i s _ _ hg st fun v h' tk hv st' kk=>?_
  obtain ⟨t,rfl⟩:=hv;have I1:Inv X pins σ H { s with heap:=h',toks:=tk }:=I.turned (fun b o hb e=>kk b o (by simpa using hb) e) f0 f1 f3 f4 f5
  refine ⟨_,rfl,fi (s:={ s with heap:=h',toks:=tk }) (n := "range_iterator") st' rfl rfl (by decide) ⟨.int (lo + i),H,I1,⟨t,?_⟩,⟨rfl,rfl⟩,st',fun b hb=>(hf b hb).1⟩⟩
  rw [Int.mul_one]
 done:=by
  intro X hP hw hK hc i pins s σ H E I hf st hg;subst hP hw hK;obtain ⟨f0,f1,f2,f3,f4,f5⟩:=hf it (by simp)
  exact wpAny_pyNext_range_end (I.ok.hd hc) st (by have:n<=i:=hg; omega) fun h' eb=>⟨rfl,I.turned (t':=s.toks) (fun b o hb e=>eb b o hb e) f0 f1 f3 f4 f5⟩
 self:=fun _ _ _ _ _ st h=>wpAny_pyIter_rangeiter st h
section
variable {X:Cx}{tg:Expr}
def iList (K:PySem.W.Frag) (tl:TE):TI:=fun σ H R=>tl σ H fun x H1=>∃ a,x=.ref a/\(∃ xs,SqL K H1 a xs)/\R (Itl K a) H1
def iTup (K:PySem.W.Frag) (tl:TE):TI:=fun σ H R=>tl σ H fun x H1=>∃ a,x=.ref a/\(∃ xs,SqT K H1 a xs)/\R (Itt K a) H1
theorem lV (hl:PE X l tl):PI X tg l (iList X.K tl):=by
 intro pins s σ H R I h;refine thn (hl pins s σ H _ I h) fun v s1 ⟨x,H1,I1,r1,q1⟩=>?_
 obtain ⟨a,e,⟨xs,hq⟩,q⟩:=q1;subst e;cases r1;obtain ⟨its,rv,p,hz⟩:=I1.list hq;refine CL p.isList ?_;refine ⟨s1.heap.objs.size,[s1.heap.objs.size],_,_,H1,rfl,I1.kept (t':=s1.toks) fun b o e=>BK _ e,uv a _,⟨_,B3 _ rfl,rfl,rfl⟩,fun b hb=>?_,q⟩
 have e:b=s1.heap.objs.size:=by simpa using hb
 subst e;exact I1.fpOk (BI _) (I1.hok.fresh (BI _))
theorem lX (hl:PE X l tl):PI X tg l (iTup X.K tl):=by
 intro pins s σ H R I h;refine thn (hl pins s σ H _ I h) fun v s1 ⟨x,H1,I1,r1,q1⟩=>?_
 obtain ⟨a,e,⟨xs,hq⟩,q⟩:=q1;subst e;cases r1;obtain ⟨its,rv,p,hz⟩:=I1.tuple hq;refine Di (show s1.heap.IsTuple a its.toArray from p) ?_;refine ⟨s1.heap.objs.size,[s1.heap.objs.size],_,_,H1,rfl,I1.kept (t':=s1.toks) fun b o e=>BK _ e,uw a _,⟨_,B3 _ rfl,rfl,rfl⟩,fun b hb=>?_,q⟩
 have e:b=s1.heap.objs.size:=by simpa using hb
 subst e;exact I1.fpOk (BI _) (I1.hok.fresh (BI _))
theorem uz{σ:St}{R:It->Hp->Prop}{E:Value->Shared->Prop}{hi:Int}{t u v:Tok}{tk:Nat} (I:Inv X pins σ H s) (h1:-(2 ^ 62)<=lo) (h2:lo < 2 ^ 62) (h3:-(2 ^ 62)<=hi) (h4:hi < 2 ^ 62)
  (q:R (Itr lo (hi - lo).toNat) H):wpAny (model X.prog X.w) X.A (pyIter (.ref s.heap.objs.size)) (PIE X pins σ tg R) E { s with heap:=s.heap.push { cls:=.type "range",data:=.fields #[.int lo t,.int hi u,.int 1 v] },toks:=tk }:=by
 refine wpAny_pyIter_range (IsRange.new ..) (small_one h1 h2 h3 h4) ?_;have I1:Inv X pins σ H { s with heap:=s.heap.push { cls:=.type "range",data:=.fields #[.int lo t,.int hi u,.int 1 v] },toks:=tk }:=I.kept fun b o e=>BK _ e
 refine ⟨(s.heap.push { cls:=.type "range",data:=.fields #[.int lo t,.int hi u,.int 1 v] }).objs.size,[(s.heap.push { cls:=.type "range",data:=.fields #[.int lo t,.int hi u,.int 1 v] }).objs.size],_,_,H,rfl,
  I1.kept (t':=tk) fun b o e=>BK _ e,ux _ lo (hi - lo).toNat,?_,fun b hb=>?_,q⟩
 ·have e1:lo + ((0:Nat):Int) * 1=lo:=by simp
  have e2:(((hi - lo).toNat:Nat):Int) - ((0:Nat):Int)=Builtin.Range.rangeSize lo hi 1:=by rw [rangeSize_one]; split <;> omega
  show IsRangeIter _ _ (lo + ((0:Nat):Int) * 1) ((((hi - lo).toNat:Nat):Int) - ((0:Nat):Int)) 1;rw [e1,e2];exact B3 _ rfl
 ·have e:b=(s.heap.push { cls:=.type "range",data:=.fields #[.int lo t,.int hi u,.int 1 v] }).objs.size:=by simpa using hb
  subst e;exact I1.fpOk (BI _) (I1.hok.fresh (BI _))
def iRng1 (ta:TA):TI:=fun σ H R=>ta σ H fun vs H1=>∃ j:Int,vs=[.int j]/\-(2 ^ 62)<=j/\j < 2 ^ 62/\R (Itr 0 j.toNat) H1
theorem uA {a:Expr}{ta:TA}{p:Pos} (hg:Gl X "range") (hm:X.mg "range" = none) (ha:PA X [a] ta) (hs:starEach [a] X.env=[(false,eval a X.env)]:=by rfl):PI X tg (.Call (.Name "range" p) [a] [] pos) (iRng1 ta):=by
 intro pins s σ H R I h;refine Call_ (dz I hg hm boot_range (DA (thn (ha pos pins s σ H _ I h) fun us s1 ⟨vs,H1,I1,r1,q1⟩=>?_) hs rfl))
 obtain ⟨j,e,q1,q2,q⟩:=q1;subst e;cases r1 with
 | cons r rr =>
  cases rr;obtain ⟨t,rfl⟩:=r;exact call_range_1 (uz I1 (by omega) (by omega) q1 q2 (by simpa using q))
def tFor (wi:TI) (g:TG) (tb:TS):TS:=fun D σ H=>wi σ H fun J H1=>∃ W:Nat->Nat->St->Hp->Prop,(∃ m,W 0 m σ H1)/\∀ i m σ H,W i m σ H ->
 (J.stop i H/\D.nx σ H)\/(J.go i H/\∃ N:St->Hp->Prop,(∀ σ' H',N σ' H'->∃ m',m' < m/\W (i + 1) m' σ' H')/\∀ x H',J.yld i H x H'->g x σ H' fun σ2 H2=>tb { D with nx:=N,ct:=N,bk:=D.nx } σ2 H2)
def pinsAt (fp:List Addr) (h:Heap):List (Addr × Obj):=fp.filterMap fun b=>(h.get? b).map fun o=>(b,o)
theorem fX{b:Addr}{o:Obj} (hb:b∈fp) (e:h.get? b=some o):(b,o)∈pinsAt fp h:=Dv.mpr ⟨b,hb,by rw [e]; rfl⟩
theorem lY{p:Addr × Obj} (hp:p∈pinsAt fp h):p.1∈fp/\h.get? p.1=some p.2:=by
 obtain ⟨b,hb,e⟩:=Dv.mp hp;cases q:h.get? b with
 | none=>rw [q] at e; cases e
 | some o =>
  rw [q] at e;have e':(b,o)=p:=Ca e;subst e';exact ⟨hb,q⟩
theorem Inv.pinned{σ:St} (I:Inv X pins σ H s) (hf:∀ b∈fp,FpOk X pins H b) (ho:∀ b∈fp,∃ o,s.heap.get? b=some o/\∀ v,o.data≠.cell v):Inv X (pins++pinsAt fp s.heap) σ H s :=
 I.pins_of fun p hp=>(BP.mp hp).elim (fun z=>I.pin p (Cw _ z)) fun z=>by
  obtain ⟨hb,e⟩:=lY z;obtain ⟨f0,f1,f2,_⟩:=hf p.1 hb;obtain ⟨o,e',d⟩:=ho p.1 hb;rw [e] at e'; cases e';exact ⟨e,f0,f1,f2,d⟩
theorem Inv.unpinned {pl:List (Addr × Obj)}{σ:St} (I:Inv X (pins++pl) σ H s):Inv X pins σ H s:=I.pins_of fun p hp=>I.pin p (Cw _ (Du _ hp))
theorem uB {iter:Expr}{wi:TI}{tb:TS}{pos:Pos} (hp:PassesOwn (model X.prog X.w) X.A X.env X.xe) (hc:X.calm=true) (hi:PI X tg iter wi) (hg:PG X tg g) (hb:PSs X body tb)
  (hs:∀ x,foldedSetIterable iter X.env x=pure x:=by intro _; rfl):PS X (.For tg iter body [] pos) (tFor wi g tb):=by
 intro pins s σ H D I h;refine wpAny_For (thn (hi pins s σ H _ I h) fun v s1 h1=>thn h1 fun itv s2 h2=>?_) hs
 obtain ⟨it,fp,tn,J,H2,e,I2,T,st2,f2,W,⟨m0,w0⟩,turn⟩:=h2;subst e;have stat:∀ {H':Hp},(∀ b∈fp,H' b=none)->∀ b∈fp,FpOk X pins H' b:=fun hn b hb=>⟨hn b hb,(f2 b hb).2⟩
 refine codeAny_forLoop_any (fun n s'=>∃ i σ' H',Inv X pins σ' H' s'/\tn i s'.heap/\(∀ b∈fp,H' b=none)/\W i n σ' H') ?_ m0 ⟨0,σ,H2,I2,st2,fun b hb=>(f2 b hb).1,w0⟩
 rintro n s3 ⟨i,σ3,H3,I3,st3,fr3,w3⟩;rcases turn i n σ3 H3 w3 with ⟨stop,qn⟩ | ⟨go,N,hN,step⟩
 ·refine wpAny_passesOwn hp (thn (T.done X rfl rfl rfl hc i pins s3 σ3 H3 X.xe I3 (stat fr3) st3 stop) fun r s4 ⟨hr,I4⟩=>?_)
  subst hr;exact wpAny_execs_nil ⟨σ3,H3,I4,qn⟩
 ·refine wpAny_passesOwn hp (thn (T.item X rfl rfl rfl hc i pins s3 σ3 H3 X.xe I3 (stat fr3) st3 go) fun r s4 ⟨u,hr,h4⟩=>?_)
  subst hr;refine wpAny_passesOwn hp (thn h4 fun _ s5 ⟨x,H5,I5,r5,y5,st5,fr5⟩=>?_)
  have I5':=I5.pinned (stat fr5) (T.obj _ _ st5);refine wpAny_passesOwn hp (thn (hg _ s5 σ3 H5 x u _ I5' r5 (step x H5 y5)) fun _ s6 ⟨σ6,H6,I6,q6⟩=>?_)
  refine wpAny_passesOwn hp (thn (hb _ s6 σ6 H6 _ I6 q6) fun f s7 q7=>?_)
  have again:∀ {σ7:St}{H7:Hp},Inv X (pins++pinsAt fp s5.heap) σ7 H7 s7->N σ7 H7->∃ m,m < n/\∃ i σ' H',Inv X pins σ' H' s7/\tn i s7.heap/\(∀ b∈fp,H' b=none)/\W i m σ' H':=fun {σ7 H7} I7 n7=>by
   obtain ⟨m',hm,w7⟩:=hN σ7 H7 n7;refine ⟨m',hm,i + 1,σ7,H7,I7.unpinned,T.keep _ _ _ st5 fun b hb o e=>(I7.pin (b,o) (Cw _ (Cw _ (fX hb e)))).1,fun b hb=>?_,w7⟩
   obtain ⟨o,e,d⟩:=T.obj _ _ st5 b hb;exact (I7.pin (b,o) (Cw _ (Cw _ (fX hb e)))).2.1
  cases f with
  | next=>obtain ⟨σ7,H7,I7,n7⟩:=q7; exact again I7 n7
  | cont=>obtain ⟨σ7,H7,I7,n7⟩:=q7; exact again I7 n7
  | brk=>obtain ⟨σ7,H7,I7,q7⟩:=q7; exact ⟨σ7,H7,I7.unpinned,q7⟩
  | ret v=>obtain ⟨x7,σ7,H7,I7,r7,q7⟩:=q7; exact ⟨x7,σ7,H7,I7.unpinned,r7,q7⟩
end
theorem uC{a:Addr}{g:TG}{tb:TS}{D:Ends}{σ:St} (Pv:Nat->St->Hp->Prop) (h0:Pv 0 σ H) (hl:∀ i σ H,i<=xs.length->Pv i σ H->SqL K H a xs)
  (hs:∀ i x σ H,xs[i]?=some x->Pv i σ H->g x σ H fun σ2 H2=>tb { D with nx:=Pv (i + 1),ct:=Pv (i + 1),bk:=D.nx } σ2 H2) (hd:∀ σ H,Pv xs.length σ H->D.nx σ H) :
  ∃ W:Nat->Nat->St->Hp->Prop,(∃ m,W 0 m σ H)/\∀ i m σ H,W i m σ H ->
   ((Itl K a).stop i H/\D.nx σ H)\/((Itl K a).go i H/\∃ N:St->Hp->Prop,(∀ σ' H',N σ' H'->∃ m',m' < m/\W (i + 1) m' σ' H')/\∀ x H',(Itl K a).yld i H x H'->g x σ H' fun σ2 H2=>tb { D with nx:=N,ct:=N,bk:=D.nx } σ2 H2):=by
 refine ⟨fun i m σ H=>m=xs.length - i/\i<=xs.length/\Pv i σ H,⟨xs.length,by simp,Ck _,h0⟩,?_⟩
 rintro i m σ H ⟨rfl,hi,p⟩;have q:=hl i σ H hi p
 by_cases hlt:i < xs.length
 ·refine .inr ⟨⟨xs,xs[i],q,by simp [hlt]⟩,Pv (i + 1),fun σ' H' p'=>⟨xs.length - (i + 1),by omega,rfl,hlt,p'⟩,fun x H' y=>?_⟩
  obtain ⟨e,y⟩:=y;subst e;exact hs i x σ _ (y xs q) p
 ·have e:i=xs.length:=by omega
  subst e;exact .inl ⟨⟨xs,q,BI _⟩,hd σ H p⟩
theorem uD{a:Addr}{g:TG}{tb:TS}{D:Ends}{σ:St} (Pv:Nat->St->Hp->Prop) (h0:Pv 0 σ H) (hl:∀ i σ H,i<=xs.length->Pv i σ H->SqT K H a xs)
  (hs:∀ i x σ H,xs[i]?=some x->Pv i σ H->g x σ H fun σ2 H2=>tb { D with nx:=Pv (i + 1),ct:=Pv (i + 1),bk:=D.nx } σ2 H2) (hd:∀ σ H,Pv xs.length σ H->D.nx σ H) :
  ∃ W:Nat->Nat->St->Hp->Prop,(∃ m,W 0 m σ H)/\∀ i m σ H,W i m σ H ->
   ((Itt K a).stop i H/\D.nx σ H)\/((Itt K a).go i H/\∃ N:St->Hp->Prop,(∀ σ' H',N σ' H'->∃ m',m' < m/\W (i + 1) m' σ' H')/\∀ x H',(Itt K a).yld i H x H'->g x σ H' fun σ2 H2=>tb { D with nx:=N,ct:=N,bk:=D.nx } σ2 H2):=by
 refine ⟨fun i m σ H=>m=xs.length - i/\i<=xs.length/\Pv i σ H,⟨xs.length,by simp,Ck _,h0⟩,?_⟩
 rintro i m σ H ⟨rfl,hi,p⟩;have q:=hl i σ H hi p
 by_cases hlt:i < xs.length
 ·refine .inr ⟨⟨xs,xs[i],q,by simp [hlt]⟩,Pv (i + 1),fun σ' H' p'=>⟨xs.length - (i + 1),by omega,rfl,hlt,p'⟩,fun x H' y=>?_⟩
  obtain ⟨e,y⟩:=y;subst e;exact hs i x σ _ (y xs q) p
 ·have e:i=xs.length:=by omega
  subst e;exact .inl ⟨⟨xs,q,BI _⟩,hd σ H p⟩
theorem uE {lo:Int}{n:Nat}{g:TG}{tb:TS}{D:Ends}{σ:St} (Pv:Nat->St->Hp->Prop) (h0:Pv 0 σ H)
  (hs:∀ i σ H,i < n->Pv i σ H->g (.int (lo + i)) σ H fun σ2 H2=>tb { D with nx:=Pv (i + 1),ct:=Pv (i + 1),bk:=D.nx } σ2 H2) (hd:∀ σ H,Pv n σ H->D.nx σ H) :
  ∃ W:Nat->Nat->St->Hp->Prop,(∃ m,W 0 m σ H)/\∀ i m σ H,W i m σ H ->
   ((Itr lo n).stop i H/\D.nx σ H)\/((Itr lo n).go i H/\∃ N:St->Hp->Prop,(∀ σ' H',N σ' H'->∃ m',m' < m/\W (i + 1) m' σ' H')/\∀ x H',(Itr lo n).yld i H x H'->g x σ H' fun σ2 H2=>tb { D with nx:=N,ct:=N,bk:=D.nx } σ2 H2):=by
 refine ⟨fun i m σ H=>m=n - i/\i<=n/\Pv i σ H,⟨n,by simp,Ck _,h0⟩,?_⟩
 rintro i m σ H ⟨rfl,hi,p⟩
 by_cases hlt:i < n
 ·refine .inr ⟨hlt,Pv (i + 1),fun σ' H' p'=>⟨n - (i + 1),by omega,rfl,hlt,p'⟩,fun x H' y=>?_⟩
  obtain ⟨e,y⟩:=y;subst e y;exact hs i σ _ hlt p
 ·have e:i=n:=by omega
  subst e;exact .inl ⟨BI _,hd σ H p⟩
abbrev R2:=V->V->Hp->VK->Prop
def OpR (X:Cx) (f:Value->Value->Sem Value) (r:R2):Prop :=
 ∀ (pins:List (Addr × Obj)) (s:Shared) (σ:St) (H:Hp) (x y:V) (v u:Value) (Q:VK),Inv X pins σ H s->RelV x v->RelV y u->r x y H Q ->
  wpAny (model X.prog X.w) X.A (f v u) (EP X pins σ Q) X.xe s
def UnR (X:Cx) (f:Value->Sem Value) (r:V->Hp->VK->Prop):Prop :=
 ∀ (pins:List (Addr × Obj)) (s:Shared) (σ:St) (H:Hp) (x:V) (v:Value) (Q:VK),Inv X pins σ H s->RelV x v->r x H Q ->
  wpAny (model X.prog X.w) X.A (f v) (EP X pins σ Q) X.xe s
def CallR (X:Cx) (f:Value) (r:List V->Hp->VK->Prop):Prop :=
 ∀ (pins:List (Addr × Obj)) (s:Shared) (σ:St) (H:Hp) (xs:List V) (us:List Value) (Q:VK),Inv X pins σ H s->Vals xs us->r xs H Q ->
  wpAny (model X.prog X.w) X.A (call f us) (EP X pins σ Q) X.xe s
def tOp (r:R2) (ta tb:TE):TE:=fun σ H Q=>ta σ H fun x H1=>tb σ H1 fun y H2=>r x y H2 Q
def tUn (r:V->Hp->VK->Prop) (ta:TE):TE:=fun σ H Q=>ta σ H fun x H1=>r x H1 Q
def rI (C:Int->Int->Prop) (g:Int->Int->V):R2:=fun x y H Q=>∃ i j,x=.int i/\y=.int j/\C i j/\Q (g i j) H
def rI0 (g:Int->Int->V):R2:=fun x y H Q=>∃ i j,x=.int i/\y=.int j/\Q (g i j) H
def rU (g:Int->V):V->Hp->VK->Prop:=fun x H Q=>∃ i,x=.int i/\Q (g i) H
section
variable {X:Cx}{a b c:Expr}{ta tb tc:TE}{pos:Pos}
theorem binT (ha:PE X a ta) (hb:PE X b tb){σ:St}{R:V->V->Hp->Prop} (I:Inv X pins σ H s)
  (h:ta σ H fun x H1=>tb σ H1 fun y H2=>R x y H2) {Q:Value->Shared->Prop}{f:Value->Value->Sem Value}
  (hf:∀ v u s2 x y H2,Inv X pins σ H2 s2->RelV x v->RelV y u->R x y H2->wpAny (model X.prog X.w) X.A (f v u) Q X.xe s2) :
  wpAny (model X.prog X.w) X.A (eval a X.env) (fun v s₁=>wpAny (model X.prog X.w) X.A (eval b X.env) (fun u s₂=>wpAny (model X.prog X.w) X.A (f v u) Q X.xe s₂) X.xe s₁) X.xe s:=by
 refine thn (ha pins s σ H _ I h) fun v s1 ⟨x,H1,I1,r1,q1⟩=>?_
 refine thn (hb pins s1 σ H1 _ I1 q1) fun u s2 ⟨y,H2,I2,r2,q2⟩=>?_
 exact hf v u s2 x y H2 I2 r1 r2 q2
theorem uF {op:Operator}{r:R2} (ho:OpR X (binaryOp op) r) (ha:PE X a ta) (hb:PE X b tb):PE X (.BinOp a op b pos) (tOp r ta tb):=by
 intro pins s σ H Q I h;exact wpAny_BinOp (binT ha hb I h fun v u s2 x y H2 I2 rx ry q=>ho pins s2 σ H2 x y v u Q I2 rx ry q)
theorem uG {op:UnaryOp}{r:V->Hp->VK->Prop} (ho:UnR X (unaryOp op) r) (ha:PE X a ta):PE X (.UnaryOp op a pos) (tUn r ta):=by
 intro pins s σ H Q I h;exact UnaryOp_ (thn (ha pins s σ H _ I h) fun v s1 ⟨x,H1,I1,r1,q1⟩=>ho pins s1 σ H1 x v Q I1 r1 q1)
theorem opI {f:Value->Value->Sem Value}{C:Int->Int->Prop}{g:Int->Int->Int}
  (rule:∀ (i j:Int) (t u:Tok) (s:Shared) (Q:Value->Shared->Prop) (E:Value->Shared->Prop),C i j->Q (.int (g i j) s.toks) { s with toks:=s.toks + 1 }->wpAny (model X.prog X.w) X.A (f (.int i t) (.int j u)) Q E s) :
  OpR X f (rI C fun i j=>.int (g i j)):=by
 intro pins s σ H x y v u Q I rx ry h;obtain ⟨i,j,rfl,rfl,hc,q⟩:=h;obtain ⟨t,rfl⟩:=rx;obtain ⟨t',rfl⟩:=ry;exact rule i j t t' s _ _ hc ⟨.int (g i j),H,I.tok _,⟨_,rfl⟩,q⟩
theorem opI0 {f:Value->Value->Sem Value}{g:Int->Int->Int}
  (rule:∀ (i j:Int) (t u:Tok) (s:Shared) (Q:Value->Shared->Prop) (E:Value->Shared->Prop),Q (.int (g i j) s.toks) { s with toks:=s.toks + 1 }->wpAny (model X.prog X.w) X.A (f (.int i t) (.int j u)) Q E s) :
  OpR X f (rI0 fun i j=>.int (g i j)):=by
 intro pins s σ H x y v u Q I rx ry h;obtain ⟨i,j,rfl,rfl,q⟩:=h;obtain ⟨t,rfl⟩:=rx;obtain ⟨t',rfl⟩:=ry;exact rule i j t t' s _ _ ⟨.int (g i j),H,I.tok _,⟨_,rfl⟩,q⟩
theorem opB0 {f:Value->Value->Sem Value}{g:Int->Int->Bool}
  (rule:∀ (i j:Int) (t u:Tok) (s:Shared) (Q:Value->Shared->Prop) (E:Value->Shared->Prop),Q (.bool (g i j)) s->wpAny (model X.prog X.w) X.A (f (.int i t) (.int j u)) Q E s) :
  OpR X f (rI0 fun i j=>.bl (g i j)):=by
 intro pins s σ H x y v u Q I rx ry h;obtain ⟨i,j,rfl,rfl,q⟩:=h;obtain ⟨t,rfl⟩:=rx;obtain ⟨t',rfl⟩:=ry;exact rule i j t t' s _ _ ⟨.bl (g i j),H,I,rfl,q⟩
def CPow (i j:Int):Prop:=0<=j/\j<=1000000/\i.natAbs < 2 ^ 64
def CMul (i j:Int):Prop:=(-(2 ^ 64) < i/\i < 2 ^ 64)\/(-(2 ^ 64) < j/\j < 2 ^ 64)
theorem CMul.ok {i j:Int} (h:CMul i j):IntMulOk i j:=by
 rcases h with ⟨h1,h2⟩ | ⟨h1,h2⟩
 ·exact .of_left (intBits_le_64 h1 h2)
 ·exact .of_right (intBits_le_64 h1 h2)
theorem uH (k:Nat):(0:Int)<=2 ^ k:=by
 rw [two_pow_cast];exact Dw _
theorem cH:OpR X (binaryOp .Add) (rI0 fun i j=>.int (i + j)):=opI0 fun _ _ _ _ _ _ _ q=>add_int q
theorem dY:OpR X (binaryOp .Sub) (rI0 fun i j=>.int (i - j)):=opI0 fun _ _ _ _ _ _ _ q=>sub_int q
theorem eK:OpR X (binaryOp .Mult) (rI CMul fun i j=>.int (i * j)):=opI fun _ _ _ _ _ _ _ hc q=>mul_int q hc.ok
theorem bG:OpR X (binaryOp .Mod) (rI (fun _ j=>0 < j) fun i j=>.int (i % j)):=opI fun i j _ _ _ _ _ hc q=>by
 have h1:(0:Int) < j:=hc;exact mod_int' (by omega) (by rw [Int.fmod_eq_emod_of_nonneg i (by omega)]; exact q)
theorem fY:OpR X (binaryOp .LShift) (rI CPow fun i j=>.int (i * 2 ^ j.toNat)):=opI fun _ _ _ _ _ _ _ hc q=>lshift_int_small hc.1 hc.2.1 hc.2.2 q
theorem uI:OpR X (binaryOp .RShift) (rI (fun _ j=>0<=j) fun i j=>.int (i / 2 ^ j.toNat)):=opI fun i j _ _ _ _ _ hc q =>
 rshift_int hc (by rw [Int.fdiv_eq_ediv_of_nonneg i (uH _)]; exact q)
theorem uJ:OpR X (binaryOp .BitAnd) (rI0 fun i j=>.int (Builtin.bitAnd i j)):=opI0 fun _ _ _ _ _ _ _ q=>and_int q
theorem unI {f:Value->Sem Value}{g:Int->Int}
  (rule:∀ (i:Int) (t:Tok) (s:Shared) (Q:Value->Shared->Prop) (E:Value->Shared->Prop),Q (.int (g i) s.toks) { s with toks:=s.toks + 1 }->wpAny (model X.prog X.w) X.A (f (.int i t)) Q E s) :
  UnR X f (rU fun i=>.int (g i)):=by
 intro pins s σ H x v Q I rx h;obtain ⟨i,rfl,q⟩:=h;obtain ⟨t,rfl⟩:=rx;exact rule i t s _ _ ⟨.int (g i),H,I.tok _,⟨_,rfl⟩,q⟩
theorem iN:UnR X (unaryOp .USub) (rU fun i=>.int (-i)):=unI fun _ _ _ _ _ q=>neg_int q
end
def scal:V->V->Bool
 | .non,.non=>true | .non,.int _=>true | .int _,.non=>true | .non,.bl _=>true | .bl _,.non=>true | .non,.str _=>true | .str _,.non=>true
 | .int _,.int _=>true | .bl _,.bl _=>true | .str _,.str _=>true | .byt _,.byt _=>true
 | .int _,.str _=>true | .str _,.int _=>true | .bl _,.str _=>true | .str _,.bl _=>true
 | _,_=>false
def rEq:R2:=fun x y H Q=>scal x y=true/\Q (.bl (decide (x=y))) H
def rNe:R2:=fun x y H Q=>scal x y=true/\Q (.bl (!decide (x=y))) H
theorem lZ {i j:Int}:decide (V.int i=V.int j)=(i == j):=by
 rw [Bool.eq_iff_iff];simp
theorem me {i j:Bool}:decide (V.bl i=V.bl j)=(i == j):=by
 rw [Bool.eq_iff_iff];simp
theorem mf {i j:Str}:decide (V.str i=V.str j)=(i == j):=by
 rw [Bool.eq_iff_iff];simp
theorem mh {i j:Array UInt8}:decide (V.byt i=V.byt j)=(i.toList == j.toList):=by
 rw [Bool.eq_iff_iff];cases i;cases j;simp
section
variable {X:Cx}{a b c:Expr}{ta tb tc:TE}{pos:Pos}
theorem aW{σ:St}{H:Hp}{Q:VK}{k k':Bool} (I:Inv X pins σ H s) (q:Q (.bl k) H) (e:k=k'):EP X pins σ Q (.bool k') s:=by
 subst e;exact ⟨.bl k,H,I,rfl,q⟩
theorem br:OpR X (compareOp .Eq) rEq:=by
 intro pins s σ H x y v u Q I rx ry h;obtain ⟨hs,q⟩:=h;cases x with
 | non =>
  cases rx;cases y with
  | non=>cases ry; exact PySem.EqNone.eq_none_none (aW I q (by simp))
  | bl j=>cases ry; exact PySem.EqNone.eq_none_bool (aW I q (by simp))
  | int j=>obtain ⟨t',rfl⟩:=ry; exact PySem.EqNone.eq_none_int (aW I q (by simp))
  | str j=>obtain ⟨t',rfl⟩:=ry; exact PySem.EqNone.eq_none_str (aW I q (by simp))
  | _=>exact absurd (show false=true from hs) B9
 | bl i =>
  cases rx;cases y with
  | non=>cases ry; exact PySem.EqNone.eq_bool_none (aW I q (by simp))
  | bl j=>cases ry; exact eq_bool (aW I q me)
  | str j=>obtain ⟨t',rfl⟩:=ry; exact PySem.EqMixed.eq_bool_str (aW I q (by simp))
  | _=>exact absurd (show false=true from hs) B9
 | int i =>
  obtain ⟨t,rfl⟩:=rx;cases y with
  | non=>cases ry; exact PySem.EqNone.eq_int_none (aW I q (by simp))
  | int j=>obtain ⟨t',rfl⟩:=ry; exact eq_int (aW I q lZ)
  | str j=>obtain ⟨t',rfl⟩:=ry; exact PySem.EqMixed.eq_int_str (aW I q (by simp))
  | _=>exact absurd (show false=true from hs) B9
 | str i =>
  obtain ⟨t,rfl⟩:=rx;cases y with
  | non=>cases ry; exact PySem.EqNone.eq_str_none (aW I q (by simp))
  | bl j=>cases ry; exact PySem.EqMixed.eq_str_bool (aW I q (by simp))
  | int j=>obtain ⟨t',rfl⟩:=ry; exact PySem.EqMixed.eq_str_int (aW I q (by simp))
  | str j=>obtain ⟨t',rfl⟩:=ry; exact eq_str (aW I q mf)
  | _=>exact absurd (show false=true from hs) B9
 | byt i =>
  obtain ⟨t,rfl⟩:=rx;cases y with
  | byt j=>obtain ⟨t',rfl⟩:=ry; exact PySem.W.eq_bytes (aW I q mh)
  | _=>exact absurd (show false=true from hs) B9
 | _=>cases y <;> exact absurd (show false=true from hs) B9
theorem cx:OpR X (compareOp .NotEq) rNe:=by
 intro pins s σ H x y v u Q I rx ry h;obtain ⟨hs,q⟩:=h;cases x with
 | non =>
  cases rx;cases y with
  | non=>cases ry; exact PySem.EqNone.ne_none_none (aW I q (by simp))
  | bl j=>cases ry; exact PySem.EqNone.ne_none_bool (aW I q (by simp))
  | int j=>obtain ⟨t',rfl⟩:=ry; exact PySem.EqNone.ne_none_int (aW I q (by simp))
  | str j=>obtain ⟨t',rfl⟩:=ry; exact PySem.EqNone.ne_none_str (aW I q (by simp))
  | _=>exact absurd (show false=true from hs) B9
 | bl i =>
  cases rx;cases y with
  | non=>cases ry; exact PySem.EqNone.ne_bool_none (aW I q (by simp))
  | bl j=>cases ry; exact ne_bool (aW I q (Cs not me))
  | str j=>obtain ⟨t',rfl⟩:=ry; exact PySem.EqMixed.ne_bool_str (aW I q (by simp))
  | _=>exact absurd (show false=true from hs) B9
 | int i =>
  obtain ⟨t,rfl⟩:=rx;cases y with
  | non=>cases ry; exact PySem.EqNone.ne_int_none (aW I q (by simp))
  | int j=>obtain ⟨t',rfl⟩:=ry; exact ne_int (aW I q (Cs not lZ))
  | str j=>obtain ⟨t',rfl⟩:=ry; exact PySem.EqMixed.ne_int_str (aW I q (by simp))
  | _=>exact absurd (show false=true from hs) B9
 | str i =>
  obtain ⟨t,rfl⟩:=rx;cases y with
  | non=>cases ry; exact PySem.EqNone.ne_str_none (aW I q (by simp))
  | bl j=>cases ry; exact PySem.EqMixed.ne_str_bool (aW I q (by simp))
  | int j=>obtain ⟨t',rfl⟩:=ry; exact PySem.EqMixed.ne_str_int (aW I q (by simp))
  | str j=>obtain ⟨t',rfl⟩:=ry; exact ne_str (aW I q (Cs not mf))
  | _=>exact absurd (show false=true from hs) B9
 | byt i =>
  obtain ⟨t,rfl⟩:=rx;cases y with
  | byt j=>obtain ⟨t',rfl⟩:=ry; exact PySem.W.ne_bytes (aW I q (Cs not mh))
  | _=>exact absurd (show false=true from hs) B9
 | _=>cases y <;> exact absurd (show false=true from hs) B9
theorem eO:OpR X (compareOp .Lt) (rI0 fun i j=>.bl (decide (i < j))):=opB0 fun _ _ _ _ _ _ _ q=>lt_int q
theorem uK:OpR X (compareOp .LtE) (rI0 fun i j=>.bl (decide (i<=j))):=opB0 fun _ _ _ _ _ _ _ q=>le_int q
theorem eP:OpR X (compareOp .Gt) (rI0 fun i j=>.bl (decide (j < i))):=opB0 fun _ _ _ _ _ _ _ q=>gt_int q
theorem mi:OpR X (compareOp .Is) (fun x y H Q=>y=.non/\Q (.bl (decide (x=.non))) H):=by
 intro pins s σ H x y v u Q I rx ry h;obtain ⟨rfl,q⟩:=h;cases ry;refine is_none_gen (aW I q ?_);cases x <;> first
  | (cases rx; rfl)
  | (obtain ⟨t,rfl⟩:=rx; rfl)
theorem iO:OpR X (compareOp .IsNot) (fun x y H Q=>y=.non/\Q (.bl (!decide (x=.non))) H):=by
 intro pins s σ H x y v u Q I rx ry h;obtain ⟨rfl,q⟩:=h;cases ry;refine isnot_none_gen (aW I q ?_);cases x <;> first
  | (cases rx; rfl)
  | (obtain ⟨t,rfl⟩:=rx; rfl)
theorem nomark (b:Expr) (h:op≠.In:=by decide) (h2:op≠.NotIn:=by decide):behindInMarks op b=false:=by
 have e1:(op == CmpOp.In)=false:=by cases op <;> first | rfl | exact absurd rfl h
 have e2:(op == CmpOp.NotIn)=false:=by cases op <;> first | rfl | exact absurd rfl h2
 cases b <;> simp [behindInMarks,e1,e2]
theorem uL{r:R2} (ho:OpR X (compareOp op) r) (ha:PE X a ta) (hb:PE X b tb) (hm:behindInMarks op b=false):PE X (.Compare a [op] [b] pos) (tOp r ta tb):=by
 intro pins s σ H Q I h;exact wpAny_Compare1 (binT ha hb I h fun v u s2 x y H2 I2 rx ry q=>ho pins s2 σ H2 x y v u Q I2 rx ry q) hm
def tTest (t:TE):TT:=fun σ H Q=>t σ H fun x H'=>∃ k,x=.bl k/\Q k H'
theorem uM{r:R2} (ho:OpR X (compareOp op) r) (ha:PE X a ta) (hb:PE X b tb) (hm:behindInMarks op b=false):PT X (.Compare a [op] [b] pos) (tTest (tOp r ta tb)):=by
 intro pins s σ H Q I h;refine wpAny_isTrue_Compare1 (thn (ha pins s σ H _ I h) fun v s1 ⟨x,H1,I1,r1,q1⟩=>thn (hb pins s1 σ H1 _ I1 q1) fun u s2 ⟨y,H2,I2,r2,q2⟩ =>
  thn (ho pins s2 σ H2 x y v u _ I2 r1 r2 q2) fun c s3 ⟨z,H3,I3,r3,k,e,q3⟩=>?_) hm
 subst e;cases r3;exact wpAny_truthy_bool ⟨H3,I3,q3⟩
def tChain (r r':R2) (ta tb tc:TE):TE:=fun σ H Q=>ta σ H fun x H1=>tb σ H1 fun y H2=>r x y H2 fun z H3=>∃ k,z=.bl k /\
 (if k=true then tc σ H3 fun w' H4=>r' y w' H4 Q else Q (.bl false) H3)
theorem uN {op':CmpOp}{r r':R2} (ho:OpR X (compareOp op) r) (ho':OpR X (compareOp op') r') (ha:PE X a ta) (hb:PE X b tb) (hc:PE X c tc)
  (hm:lastMarks [op,op'] [b,c]=false:=by with_unfolding_all rfl):PE X (.Compare a [op,op'] [b,c] pos) (tChain r r' ta tb tc):=by
 intro pins s σ H Q I h;refine Compare_chain (thn (ha pins s σ H _ I h) fun v s1 ⟨x,H1,I1,r1,q1⟩=>chain_link (thn (hb pins s1 σ H1 _ I1 q1) fun u s2 ⟨y,H2,I2,r2,q2⟩ =>
  thn (ho pins s2 σ H2 x y v u _ I2 r1 r2 q2) fun d s3 ⟨z,H3,I3,r3,k,e,q3⟩=>?_)) hm
 subst e;cases r3;refine wpAny_truthy_bool ?_;cases k with
 | false=>exact ite_ff ⟨.bl false,H3,I3,rfl,q3⟩
 | true=>exact ite_tt (chain_last (thn (hc pins s3 σ H3 _ I3 q3) fun w' s4 ⟨z',H4,I4,r4,q4⟩=>ho' pins s4 σ H4 y z' u w' Q I4 r2 r4 q4))
theorem line63:(sizeLine:Nat) < 2 ^ 63:=by rw [BR]; decide
theorem vals1 {x:V} (r:Vals [x] us):∃ u,us=[u]/\RelV x u:=by
 cases r with
 | cons r1 r2=>cases r2; exact ⟨_,rfl,r1⟩
theorem vals2 {x:V} (r:Vals [x,y] us):∃ u w',us=[u,w']/\RelV x u/\RelV y w':=by
 cases r with
 | cons r1 r2 =>
  cases r2 with
  | cons r3 r4=>cases r4; exact ⟨_,_,rfl,r1,r3⟩
theorem uO (hc:X.calm=true):CallR X (.builtin "min") (fun xs H Q=>∃ i j,xs=[.int i,.int j]/\Q (.int (if j < i then j else i)) H):=by
 intro pins s σ H xs us Q I r h;obtain ⟨i,j,rfl,q⟩:=h;obtain ⟨u,w',rfl,⟨t,rfl⟩,⟨t',rfl⟩⟩:=vals2 r;refine min_two_ints (I.ok.hd hc) fun h' tk k=>⟨_,H,I.kept k,?_,q⟩
 by_cases hj:j < i
 ·rw [if_pos hj,if_pos hj]; exact ⟨_,rfl⟩
 ·rw [if_neg hj,if_neg hj]; exact ⟨_,rfl⟩
end
structure ObjM (h:Heap) (x dx C:Addr) (mA:Str->Option Value):Prop where
 obj:h.get? x=some (PySem.W.instObj C dx)
 ns:h.Ns1 dx mA
 ne:dx≠x
theorem uP (n:h.Ns1 dx mA):∃ od,h.get? dx=some od/\∀ name,PySem.W.lookIn name od=some (mA name):=by
 obtain ⟨o,es,ep,ho,hd,hk,_,hm⟩:=n;refine ⟨o,ho,fun name=>?_⟩
 have e:=hm name;unfold nsFind findBy at e;rw [<- Array.find?_toList] at e;unfold PySem.W.lookIn;rw [hd]
 dsimp only
 split
 ·rename_i y q
  rw [q] at e;exact Cs some e
 ·rename_i q
  rw [q] at e;have a:es.toList.any (·.refKey)=false:=by
   rw [List.any_eq_false];intro y hy;obtain ⟨z,t,hkey⟩:=hk y (Array.mem_toList_iff.mp hy);simp [DictEntry.refKey,hkey]
  have a':¬ es.toList.any (·.refKey)=true:=by rw [a]; exact B9
  rw [if_neg a'];exact Cs some e
theorem ObjM.look{x:Addr} (I:ObjM h x dx C mA):∃ od,PySem.W.InstAt h x (PySem.W.instObj C dx) C (some od)/\∀ name,PySem.W.lookIn name od=some (mA name) :=
 let ⟨od,ho,hl⟩:=uP I.ns
 ⟨od,⟨I.obj,rfl,rfl,ho⟩,hl⟩
section
variable {prog:Program}{w:World}{A:Around}{E:Value->Shared->Prop}{s:Shared}{K:PySem.W.Frag}{x dx C f:Addr}{mA:Str->Option Value}{name:Str}{v:Value}
theorem uQ {expr:Bool}{Q:Value->Shared->Prop} (X:K.In s.heap) (I:ObjM s.heap x dx C mA) (hg:PySem.W.plainGet K C name=true) (hh:PySem.W.hasDictIn K C=true)
  (ha:PySem.W.findIn K (.ref C) name=some none) (hv:mA name=some v) (hv':PySem.W.handedIn v=true) (h:Q v { s with toks:=s.toks + 1 }) :
  wpAny (model prog w) A (getAttr (.ref x) name expr) Q E s:=by
 obtain ⟨od,J,hl⟩:=I.look;exact PySem.W.get_value X J (PySem.W.plainGet_of hg).1 (PySem.W.findObj_own hh ha rfl (by rw [hl,hv])) hv' h
theorem uR {pl:Sem Bool}{Q:Value × List Value->Shared->Prop} (X:K.In s.heap) (I:ObjM s.heap x dx C mA) (hg:PySem.W.plainGet K C name=true)
  (hf:PySem.W.findIn K (.ref C) name=some (some (.ref f))) (ht:PySem.W.isFn K (.ref f)=true) (hv:mA name=none) (h:Q (.ref f,[.ref x]) s) :
  wpAny (model prog w) A (getMethod (.ref x) name pl) Q E s:=by
 obtain ⟨od,J,hl⟩:=I.look;exact PySem.W.method_fn X J (PySem.W.plainGet_of hg).1 (PySem.W.plainGet_of hg).2 hf (beq_iff_eq.mp ht) (by show (PySem.W.lookIn name od).map (·.isSome)=some false; rw [hl,hv]; rfl) h
theorem uS {ns:List Str}{Q:Unit->Shared->Prop} (X:K.In s.heap) (I:ObjM s.heap x dx C mA)
  (hs:PySem.W.findIn K (.ref C) "__setattr__" = some (some (.builtin "object.__setattr__"))) (hp:PySem.W.plainOver K C=true) (ht:PySem.W.takerIn K C name=some none) (hh:PySem.W.hasDictIn K C=true)
  (hw:PySem.Within mA ns) (hsz:ns.length<=sizeLine)
  (h:∀ h',ObjM h' x dx C (fun y=>if y=name then some v else mA y)->Heap.SameBut dx s.heap h'->Q () { s with heap:=h',toks:=s.toks + 2 }) :
  wpAny (model prog w) A (setAttr (.ref x) name v) Q E s:=by
 obtain ⟨od,J,hl⟩:=I.look;refine PySem.W.set_plain X J hs (PySem.W.osa_open (s:={ s with toks:=s.toks + 1 }) (r:=none) X J hp ht fun b=>?_)
 obtain ⟨cd,hc,hd'⟩:=PySem.W.any_some hh;have hx:s.heap.get? x=some ⟨.ref C,some dx,.plain,#[]⟩:=I.obj;refine BE (BG (BE (BE (wpAny_loadPart hx (BE (PySem.W.Looks.here (s:={ s with toks:=s.toks + 1 }) (PySem.W.looks_clsIn X hc) ?_))))))
 rw [hd'];refine BG (a:=some dx) (BE (BG (BE ?_)));refine wpAny_nsSet1 (s:={ s with toks:=s.toks + 1 }) I.ns fun h' hn2 hs2=>?_
 obtain ⟨oD,esD,epD,hoD,hdD,hcD⟩:=hn2.count (PySem.Within.cons name v hw);refine BE (wpAny_lookBehind hoD (by rw [hdD]; exact pastItsLine_dict (B7 hcD (by rw [Cm]; omega))) ?_)
 exact BG (h _ ⟨(hs2.2 _ (B1 I.ne)).trans I.obj,hn2,I.ne⟩ hs2)
theorem uT {R:Result->Shared->Prop}{vs:List Value}{kw:List (Str × Value)} (X:K.In s.heap) (hm:PySem.W.makesIn K C=true)
  (hi:PySem.W.findIn K (.ref C) "__init__" = some (some (.ref f))) (hf:PySem.W.typeIn K (.ref f)=some (.type "function"))
  (h:codeAny (model prog w) (A.under (.builtin "type.__call__" ⟨.ref C :: vs,kw⟩)) (.call (.ref f) ⟨.ref (s.heap.objs.size + 1) :: vs,kw⟩) (PySem.W.InitBack (s.heap.objs.size + 1) R)
   { s with heap:=(s.heap.push PySem.W.emptyDict).push (PySem.W.instObj C s.heap.objs.size) }) :
  codeAny (model prog w) A (.call (.ref C) ⟨vs,kw⟩) R s:=by
 obtain ⟨hh,g,d,t,os⟩:=s;exact PySem.W.make_core (PySem.W.makes_of X hm) (PySem.W.looks_findIn X hi) (fun self=>PySem.W.bind_fn X self hf) (.inl rfl) h
end
def putF (f:Str) (v:V):List (Str × V)->List (Str × V)
 | []=>[(f,v)]
 | (g,x) :: r=>if g=f then (g,v) :: r else (g,x) :: putF f v r
theorem ml (f g:Str) (v:V):∀ fs:List (Str × V),(putF f v fs).lookup g=if g=f then some v else fs.lookup g
 | []=>by
  show List.lookup g [(f,v)]=_
  by_cases h:g=f
  ·have hb:(g == f)=true:=beq_iff_eq.mpr h
   simp only [List.lookup,hb,if_pos h]
  ·have hb:(g == f)=false:=CB.mpr h
   simp only [List.lookup,hb,if_neg h]
 | (k,x) :: r=>by
  have ih:=ml f g v r;rw [show putF f v ((k,x) :: r)=(if k=f then (k,v) :: r else (k,x) :: putF f v r) from rfl]
  by_cases hk:k=f
  ·rw [if_pos hk]
   by_cases h:g=k
   ·have hb:(g == k)=true:=beq_iff_eq.mpr h
    simp only [List.lookup,hb,if_pos (h.trans hk)]
   ·have hb:(g == k)=false:=CB.mpr h
    simp only [List.lookup,hb,if_neg (fun e:g=f=>h (e.trans hk.symm))]
  ·rw [if_neg hk]
   by_cases h:g=k
   ·have hb:(g == k)=true:=beq_iff_eq.mpr h
    simp only [List.lookup,hb,if_neg (fun e:g=f=>hk (h.symm.trans e))]
   ·have hb:(g == k)=false:=CB.mpr h
    simp only [List.lookup,hb];exact ih
theorem iP (f:Str) (v:V):∀ fs:List (Str × V),f∈(putF f v fs).map (·.1)/\∀ g,g∈fs.map (·.1)->g∈(putF f v fs).map (·.1)
 | []=>⟨by simp [putF],fun g h=>by simp at h⟩
 | (k,x) :: r=>by
  obtain ⟨i1,i2⟩:=iP f v r;rw [show putF f v ((k,x) :: r)=(if k=f then (k,v) :: r else (k,x) :: putF f v r) from rfl]
  by_cases hk:k=f
  ·rw [if_pos hk]
   subst hk;exact ⟨by simp,fun g h=>by simpa using h⟩
  ·rw [if_neg hk]
   refine ⟨?_,fun g h=>?_⟩
   ·rw [B4]
    exact CD _ i1
   ·rw [B4] at h ⊢
    rcases BV.mp h with e | e
    ·exact BV.mpr (.inl e)
    ·exact CD _ (i2 g e)
theorem mm (f:Str) (v:V):∀ fs:List (Str × V),(putF f v fs).length<=fs.length + 1
 | []=>by simp [putF]
 | (k,x) :: r=>by
  have ih:=mm f v r;rw [show putF f v ((k,x) :: r)=(if k=f then (k,v) :: r else (k,x) :: putF f v r) from rfl]
  by_cases hk:k=f
  ·rw [if_pos hk,Cm,Cm]; omega
  ·rw [if_neg hk,Cm,Cm]; omega
theorem RelO.some_of {v:V}{o:Option Value} (r:RelO (some v) o):∃ u,o=some u/\RelV v u:=by
 cases o with
 | none=>exact (show False from r).elim
 | some u=>exact ⟨u,rfl,r⟩
theorem RelO.none_of {o:Option Value} (r:RelO none o):o=none:=by
 cases o with
 | none=>rfl
 | some u=>exact (show False from r).elim
theorem uU {v:V}{u:Value} (r:RelV v u):PySem.W.handedIn u=true:=by
 cases v with
 | non=>cases (show u=Value.none from r); rfl
 | bl b=>cases (show u=Value.bool b from r); rfl
 | int i=>obtain ⟨t,e⟩:=(show ∃ t,u=Value.int i t from r); cases e; rfl
 | str x=>obtain ⟨t,e⟩:=(show ∃ t,u=Value.str x t from r); cases e; rfl
 | byt b=>obtain ⟨t,e⟩:=(show ∃ t,u=Value.bytes b t from r); cases e; rfl
 | flt b=>obtain ⟨t,e⟩:=(show ∃ t,u=Value.float b t from r); cases e; rfl
 | ref a=>cases (show u=Value.ref a from r); rfl
 | ty n=>cases (show u=Value.type n from r); rfl
section
variable {P:Program}{w:World}{H H':Hp}{h h':Heap}{a C dx:Addr}{fs fs':List (Str × V)}
theorem fj (hok:HOk P w H h) (e:H a=some (.ins C dx fs)):∃ mA,ObjM h a dx C mA/\(∀ f,RelO (fs.lookup f) (mA f))/\PySem.Within mA (fs.map (·.1))/\fs.length<=1000/\H dx=some (.own a):=by
 obtain ⟨d,z,ne,ob,mA,n,r,q⟩:=(show ObjOk P w H h a (.ins C dx fs) from hok a _ e);exact ⟨mA,⟨ob,n,ne⟩,r,q,z,d⟩
end
structure Cls (K:PySem.W.Frag) (C:Addr):Prop where
 pg:PySem.W.plainGet K C Str.empty=true
 hd:PySem.W.hasDictIn K C=true
 po:PySem.W.plainOver K C=true
 sa:PySem.W.findIn K (.ref C) "__setattr__" = some (some (.builtin "object.__setattr__"))
theorem Cls.get (c:Cls K C) (f:Str):PySem.W.plainGet K C f=true:=c.pg
def NoAttr (K:PySem.W.Frag) (C:Addr) (f:Str):Prop:=PySem.W.findIn K (.ref C) f=some none
theorem NoAttr.taker{f:Str} (n:NoAttr K C f):PySem.W.takerIn K C f=some none:=by
 unfold PySem.W.takerIn;rw [show PySem.W.findIn K (.ref C) f=some none from n];rfl
structure Meth (K:PySem.W.Frag) (C:Addr) (m:Str) (f:Addr):Prop where
 at_:PySem.W.findIn K (.ref C) m=some (some (.ref f))
 fn:PySem.W.isFn K (.ref f)=true
 kp:PySem.W.keepIn K (.ref f)=true
section
variable {X:Cx}{pins:List (Addr × Obj)}{σ:St}{H:Hp}{s:Shared}{a C dx:Addr}{fs:List (Str × V)}{f:Str}{v:V}{A:Around}{E:Value->Shared->Prop}
theorem uV {b:Bool}{Q:Value->Shared->Prop} (I:Inv X pins σ H s) (e:H a=some (.ins C dx fs)) (c:Cls X.K C) (n:NoAttr X.K C f) (l:fs.lookup f=some v)
  (h:∀ u s',Inv X pins σ H s'->RelV v u->Q u s'):wpAny (model X.prog X.w) A (getAttr (.ref a) f b) Q E s:=by
 obtain ⟨mA,O,r,_,_,_⟩:=fj I.hok e;obtain ⟨u,hu,ru⟩:=RelO.some_of (v:=v) (o:=mA f) (by rw [<- l]; exact r f)
 exact uQ I.kIn O (c.get f) c.hd n hu (uU ru) (h u _ (I.tok _) ru)
theorem mq {m:Str}{g:Addr}{pl:Sem Bool}{Q:Value × List Value->Shared->Prop} (I:Inv X pins σ H s) (e:H a=some (.ins C dx fs)) (c:Cls X.K C) (k:Meth X.K C m g) (l:fs.lookup m=none)
  (h:Q (.ref g,[.ref a]) s):wpAny (model X.prog X.w) A (getMethod (.ref a) m pl) Q E s:=by
 obtain ⟨mA,O,r,_,_,_⟩:=fj I.hok e;have hn:mA m=none:=RelO.none_of (by rw [<- l]; exact r m)
 exact uR I.kIn O (c.get m) k.at_ k.fn hn h
theorem uW{u:Value}{Q:Unit->Shared->Prop} (I:Inv X pins σ H s) (e:H a=some (.ins C dx fs)) (c:Cls X.K C) (n:NoAttr X.K C f) (hl:fs.length < 1000) (ry:RelV y u)
  (h:∀ s',Inv X pins σ (upd H a (.ins C dx (putF f y fs))) s'->Q () s'):wpAny (model X.prog X.w) A (setAttr (.ref a) f u) Q E s:=by
 obtain ⟨mA,O,r,wi,_,ho⟩:=fj I.hok e;have hz:(fs.map (·.1)).length<=sizeLine:=by rw [BF,BR]; omega
 refine uS I.kIn O c.sa c.po n.taker c.hd wi hz fun h' O' sb=>h _ ?_
 have hd:∃ o,h'.get? dx=some o:=let ⟨o,_,_,e',_⟩:=O'.ns; ⟨o,e'⟩;refine I.write (x:=a) (e:=dx) (by rw [e]; exact True.intro) (.inr ho) (fun b q hb z=>(sb.2 b hb).trans z) hd ?_
 refine ⟨by rw [aD O.ne]; exact ho,?_,O.ne,O'.obj,_,O'.ns,fun g=>?_,fun g hg=>?_⟩
 ·have:=mm f y fs; omega
 ·show RelO ((putF f y fs).lookup g) (if g=f then some u else mA g)
  rw [ml]
  by_cases q:g=f
  ·rw [if_pos q,if_pos q]; exact ry
  ·rw [if_neg q,if_neg q]; exact r g
 ·by_cases q:g=f
  ·rw [q]; exact (iP f y fs).1
  ·refine (iP f y fs).2 g (wi g fun z=>hg ?_)
   show (if g=f then some u else mA g)=none;rw [if_neg q]; exact z
theorem Inv.made (I:Inv X pins σ H s):Inv X pins σ (upd (upd H s.heap.objs.size (.own (s.heap.objs.size + 1))) (s.heap.objs.size + 1) (.ins C s.heap.objs.size []))
  { s with heap:=(s.heap.push PySem.W.emptyDict).push (PySem.W.instObj C s.heap.objs.size) }:=by
 have e1:(s.heap.push PySem.W.emptyDict).get? s.heap.objs.size=some PySem.W.emptyDict:=B3 s.heap rfl;have e2:((s.heap.push PySem.W.emptyDict).push (PySem.W.instObj C s.heap.objs.size)).get? (s.heap.objs.size + 1)=some (PySem.W.instObj C s.heap.objs.size):=by
  have:=B3 (s.heap.push PySem.W.emptyDict) (o:=PySem.W.instObj C s.heap.objs.size) rfl
  rwa [CF] at this
 have e3:(s.heap.push PySem.W.emptyDict).Ns s.heap.objs.size (fun _=>none):=⟨PySem.W.emptyDict,#[],_,e1,rfl,(fun e he=>absurd he (by simp)),fun _=>rfl⟩
 have I1:=I.laid (a:=s.heap.objs.size) (o:=.own (s.heap.objs.size + 1)) (h':=s.heap.push PySem.W.emptyDict) (t':=s.toks) (fun b u q=>BK _ q) (BI _) ⟨_,e1⟩
 refine I1.laid (a:=s.heap.objs.size + 1) (o:=.ins C s.heap.objs.size []) (t':=s.toks) (fun b u q=>BK _ q) (Nat.le_of_eq (CF _ _)) ?_
 have ne:s.heap.objs.size≠s.heap.objs.size + 1:=BS (Nat.lt_succ_self _);refine ⟨by rw [aD ne,af],Ck _,ne,e2,fun _=>none,(Heap.Ns1.of_empty e3).at fun o q=>BK _ q,fun _=>True.intro,fun y hy=>absurd rfl hy⟩
theorem uX {prog:Program}{w:World}{env:Env}{e:Expr}{f:Str}{pos:Pos}{s:Shared}{Q:Value->Shared->Prop} (hb:attributeBase e f env (eval e env)=eval e env)
  (h:wpAny (model prog w) A (eval e env) (fun o s₁=>wpAny (model prog w) A (getAttr o f true) Q E s₁) E s):wpAny (model prog w) A (eval (.Attribute e f pos) env) Q E s :=
 Attribute_any_ h (by rw [arm_eval_Attribute,hb])
end
def tFld (K:PySem.W.Frag) (ta:TE) (f:Str):TE:=fun σ H Q=>ta σ H fun x H1=>∃ a C dx fs v,x=.ref a/\H1 a=some (.ins C dx fs)/\Cls K C/\NoAttr K C f/\fs.lookup f=some v/\Q v H1
def sFld (K:PySem.W.Frag) (ta tv:TE) (f:Str):TS:=fun D σ H=>tv σ H fun y H1=>ta σ H1 fun x H2=>∃ a C dx fs,x=.ref a/\H2 a=some (.ins C dx fs)/\Cls K C/\NoAttr K C f/\fs.length < 1000 /\
 D.nx σ (upd H2 a (.ins C dx (putF f y fs)))
section
variable {X:Cx}{o e value:Expr}{f:Str}{pos pos' tpos:Pos}{ta tv:TE}
theorem mr (he:PE X e ta) (hb:attributeBase e f X.env (eval e X.env)=eval e X.env):PE X (.Attribute e f pos) (tFld X.K ta f):=by
 intro pins s σ H Q I h;refine uX hb (thn (he pins s σ H _ I h) fun u s1 ⟨x,H1,I1,rx,a,C,dx,fs,v,ex,ea,c,n,l,q⟩=>?_)
 subst ex;obtain rfl:u=Value.ref a:=rx;exact uV I1 ea c n l fun u' s2 I2 ru=>⟨v,H1,I2,ru,q⟩
theorem uY (ha:PE X o ta) (hv:PE X value tv) (hs:swapsWith value (some (.Attribute o f pos')) pos.line X.env=pure false):PS X (.Assign [.Attribute o f pos'] value pos) (sFld X.K ta tv f):=by
 intro pins s σ H D I h;refine plainObj_wpAny_Assign_Attribute (thn (hv pins s σ H _ I h) fun u s1 ⟨y,H1,I1,ry,q⟩=>thn (ha pins s1 σ H1 _ I1 q) fun ov s2 ⟨x,H2,I2,rx,a,C,dx,fs,ex,ea,c,n,l,q2⟩=>?_) hs
 subst ex;obtain rfl:ov=Value.ref a:=rx;exact uW I2 ea c n l ry fun s3 I3=>⟨σ,_,I3,q2⟩
end
section
variable {X:Cx}{pins:List (Addr × Obj)}{σ:St}{H:Hp}{s:Shared}{A:Around}{E:Value->Shared->Prop}{Q:Value->Shared->Prop}{c:Value}{b:Bool}
inductive TyOf (K:PySem.W.Frag) (H:Hp):V->Value->Prop where
 | non:TyOf K H .non (.type "NoneType")
 | bl (x:Bool):TyOf K H (.bl x) (.type "bool")
 | int (i:Int):TyOf K H (.int i) (.type "int")
 | str (x:Str):TyOf K H (.str x) (.type "str")
 | flt (x:UInt64):TyOf K H (.flt x) (.type "float")
 | lst {a:Addr}{xs:List V} (e:H a=some (.lst xs)):TyOf K H (.ref a) (.type "list")
 | frz {a:Addr}{o:Obj}{xs:List V} (e:H a=some (.frz o (.lst xs))):TyOf K H (.ref a) (.type "list")
 | tup {a:Addr}{xs:List V} (e:H a=some (.tup xs)):TyOf K H (.ref a) (.type "tuple")
 | dK {a:Addr}{kvs:List (Key × V)} (e:H a=some (.dK kvs)):TyOf K H (.ref a) (.type "dict")
 | dT {a:Addr}{kvs:List (List Key × V)} (e:H a=some (.dT kvs)):TyOf K H (.ref a) (.type "dict")
 | ins {a C dx:Addr}{fs:List (Str × V)} (e:H a=some (.ins C dx fs)) (cl:Cls K C) (ha:PySem.W.findIn K (.ref C) "__class__" = some (some (.builtin "object.__class__")))
   (hn:PySem.W.specialIn K (.builtin "object.__class__") "__get__" = some (some (.builtin "getset_descriptor.__get__"))) (htk:PySem.W.takesIn K (.builtin "object.__class__")=some true)
   (hm:PySem.W.mroIn K C (.type "object")=some true):TyOf K H (.ref a) (.ref C)
theorem mw {x:V}{u t:Value} (I:Inv X pins σ H s) (rx:RelV x u) (ty:TyOf X.K H x t) (e:PySem.W.kitOne X.K t c=some b) (h:∀ tk,Q (.bool b) { s with toks:=tk }) :
  wpAny (model X.prog X.w) A (call (.builtin "isinstance") [u,c]) Q E s:=by
 cases ty with
 | non=>cases (show u=Value.none from rx); exact CS PySem.W.kitx_none I.kIn True.intro e (fun z=>nomatch z) h
 | bl y=>cases (show u=Value.bool y from rx); exact CS PySem.W.kitx_bool I.kIn True.intro e (fun z=>nomatch z) h
 | int i=>obtain ⟨t,q⟩:=(show ∃ t,u=Value.int i t from rx); cases q; exact CS PySem.W.kitx_int I.kIn True.intro e (fun z=>nomatch z) h
 | str y=>obtain ⟨t,q⟩:=(show ∃ t,u=Value.str y t from rx); cases q; exact CS PySem.W.kitx_str I.kIn True.intro e (fun z=>nomatch z) h
 | flt y=>obtain ⟨t,q⟩:=(show ∃ t,u=Value.float y t from rx); cases q; exact CS PySem.W.kitx_float I.kIn True.intro e (fun z=>nomatch z) h
 | @lst a xs ea =>
  cases (show u=Value.ref a from rx);obtain ⟨_,_,n,_,h1⟩:=(show ObjOk X.prog X.w H s.heap a (.lst xs) from I.hok a _ ea);exact CS PySem.W.kitx_list I.kIn ⟨_,h1,rfl⟩ e (fun z=>nomatch z) h
 | @frz a ob xs ea =>
  cases (show u=Value.ref a from rx);obtain ⟨_,_,_,n,_,h1⟩:=(show ObjOk X.prog X.w H s.heap a (.frz ob (.lst xs)) from I.hok a _ ea);exact CS PySem.W.kitx_list I.kIn ⟨_,h1,rfl⟩ e (fun z=>nomatch z) h
 | @tup a xs ea =>
  cases (show u=Value.ref a from rx);obtain ⟨_,_,_,p⟩:=(show ObjOk X.prog X.w H s.heap a (.tup xs) from I.hok a _ ea);obtain ⟨o,h1,h2,_⟩:=p;exact CS PySem.W.kitx_tuple I.kIn ⟨o,h1,h2⟩ e (fun z=>nomatch z) h
 | @dK a kvs ea =>
  cases (show u=Value.ref a from rx);obtain ⟨_,_,vs,_,p⟩:=(show ObjOk X.prog X.w H s.heap a (.dK kvs) from I.hok a _ ea);obtain ⟨o,es,ep,h1,h2,_⟩:=p;exact CS PySem.W.kitx_dict I.kIn ⟨o,h1,h2.1⟩ e (fun z=>nomatch z) h
 | @dT a kvs ea =>
  cases (show u=Value.ref a from rx);obtain ⟨_,_,xs,_,o,es,ep,h1,h2,_⟩:=(show ObjOk X.prog X.w H s.heap a (.dT kvs) from I.hok a _ ea);exact CS PySem.W.kitx_dict I.kIn ⟨o,h1,h2.1⟩ e (fun z=>nomatch z) h
 | @ins a C dx fs ea cl ha hn htk hm =>
  cases (show u=Value.ref a from rx);obtain ⟨mA,O,_⟩:=fj I.hok ea;obtain ⟨od,J,_⟩:=O.look;exact CS (PySem.W.kitx_own (cl.get _) cl.hd ha hn htk hm) I.kIn J e (fun z=>nomatch z) h
end
structure Room (k:Nat) (A:Around):Prop where
 hd:A.handled=none
 dp:A.depth + 3 * k + 5 < recursionLimit
 un:A.units + 16 * k + 200 < cLine
theorem Room.mono {k:Nat} (r:Room k A) (h:j<=k):Room j A:=⟨r.hd,by have:=r.dp; omega,by have:=r.un; omega⟩
theorem Room.deeper (r:Room (k + 1) A) (env:Env):Room k (A.deeper env) :=
 ⟨r.hd,by have:=r.dp; show A.depth + 1 + 3 * k + 5 < _; omega,by have:=r.un; show A.units + 3 + 16 * k + 200 < _; omega⟩
theorem uZ:(A.under (.builtin "type.__call__" ⟨.ref C :: us,kw⟩)).depth=A.depth + 1:=by
 first | rfl | simp [Around.under,Code.weight,Code.isCreation,Code.isGuard,Code.isCaller,Code.frames,Code.isFrame,guardIds]
theorem va:(A.under (.builtin "type.__call__" ⟨.ref C :: us,kw⟩)).units=A.units + 1:=by
 first | rfl | simp [Around.under,Code.cUnits,Code.frames,Code.isFrame]
theorem Room.make (r:Room (k + 1) A) (C:Addr) (us:List Value) (kw:List (Str × Value)):Room k (A.under (.builtin "type.__call__" ⟨.ref C :: us,kw⟩)) :=
 ⟨r.hd,by have:=r.dp; rw [uZ]; omega,by have:=r.un; rw [va]; omega⟩
theorem Room.depth {k:Nat} (r:Room k A):A.depth < recursionLimit:=by have:=r.dp; omega
theorem Room.units {k:Nat} (r:Room k A):A.units + 64 < cLine:=by have:=r.un; omega
def tNil:TA:=fun _ H Q=>Q [] H
def tCons (ta:TE) (tr:TA):TA:=fun σ H Q=>ta σ H fun x H1=>tr σ H1 fun xs H2=>Q (x :: xs) H2
section
variable {X:Cx}{e:Expr}{es:List Expr}{te:TE}{t:TA}{pos:Pos}
theorem vb:PA X [] tNil:=fun _ _ _ _ H Q I h=>Calls.spliced_nil ⟨[],H,I,.nil,h⟩
theorem vc (ha:PE X e te) (hr:PA X es t) (hs:starEach (e :: es) X.env=(false,eval e X.env) :: starEach es X.env:=by rfl):PA X (e :: es) (tCons te t):=by
 intro pos pins s σ H Q I h;rw [hs];show wpAny _ _ (spliced ((false,eval e X.env) :: backTo pos (starEach es X.env))) _ _ s;refine Calls.spliced_cons (thn (ha pins s σ H _ I h) fun u s1 ⟨x,H1,I1,r1,q1⟩=>?_)
 exact thn (hr pos pins s1 σ H1 _ I1 q1) fun us s2 ⟨xs,H2,I2,r2,q2⟩=>⟨x :: xs,H2,I2,.cons r1 r2,q2⟩
def tTup (t:TA):TE:=fun σ H Q=>t σ H fun xs H1=>xs.length<=sizeLine/\∀ p,H1 p=none->Q (.ref p) (upd H1 p (.tup xs))
def tLst (t:TA):TE:=fun σ H Q=>t σ H fun xs H1=>xs.length<=sizeLine/\∀ p,H1 p=none->Q (.ref p) (upd H1 p (.lst xs))
theorem vd {x1} (h:PA X es t):PE X (.Tuple es x1 pos) (tTup t):=by
 intro pins s σ H Q I hq;refine wpAny_Tuple_spliced (thn (h pos pins s σ H _ I hq) fun us s1 ⟨xs,H1,I1,r,z,q⟩=>⟨by rw [<- r.length]; exact z,?_⟩)
 have hf:H1 s1.heap.objs.size=none:=I1.hok.fresh (BI _);refine ⟨.ref s1.heap.objs.size,upd H1 s1.heap.objs.size (.tup xs),I1.laid (t':=s1.toks) (fun b u e=>BK _ e) (BI _) ?_,rfl,q _ hf⟩
 exact ⟨z,us,r,⟨_,B3 _ rfl,rfl,_,rfl⟩⟩
theorem ve (h:PA X es t):PE X (.List es pos) (tLst t):=by
 intro pins s σ H Q I hq;refine wpAny_List_spliced (thn (h pos pins s σ H _ I hq) fun us s1 ⟨xs,H1,I1,r,z,q⟩=>⟨by rw [<- r.length]; exact z,?_⟩)
 have hf:H1 s1.heap.objs.size=none:=I1.hok.fresh (BI _);refine ⟨.ref s1.heap.objs.size,upd H1 s1.heap.objs.size (.lst xs),I1.laid (t':=s1.toks) (fun b u e=>BK _ e) (BI _) ?_,rfl,q _ hf⟩
 exact ⟨z,us,0,r,B3 _ rfl⟩
end
abbrev Sp:=List V->Hp->VK->XK->Prop
abbrev CXT:=List Env->Hp->Shared->XK->Value->Shared->Prop
structure Env0 (P:Program) (w:World) (K:PySem.W.Frag) (mg:Str->Option Value) (base:Heap) (A:Around) (outer:List Env) (s:Shared) (H:Hp):Prop where
 frames:A.frames=some outer
 mod:Mod K mg base
 bs:∀ b o,base.get? b=some o->s.heap.get? b=some o/\H b=none
 bsz:base.objs.size<=s.heap.objs.size
 funs:s.heap.FunFrames base outer
 frf:∀ b∈frs outer,H b=none
 hok:HOk P w H s.heap
 bare:AllBare s.gens
def CE (outer:List Env) (P:Program) (w:World) (H:Hp) (s:Shared) (Q:VK) (u:Value) (s':Shared):Prop :=
 ∃ v H',s'.os=s.os/\AllBare s'.gens/\Un (frs outer) [] H H' s.heap s'.heap/\HOk P w H' s'.heap/\RelV v u/\Q v H'
def CR (CX:CXT) (outer:List Env) (P:Program) (w:World) (H:Hp) (s:Shared) (Q:VK) (E:XK) (r:Result) (s':Shared):Prop :=
 match r with
 | .ok (.ret u)=>CE outer P w H s Q u s'
 | .ok _=>False
 | .error e=>CX outer H s E e s'
structure FnOk (P:Program) (w:World) (K:PySem.W.Frag) (mg:Str->Option Value) (base:Heap) (CX:CXT) (k:Nat) (f:Addr) (fd:FuncData) (ps:List Str) (sp:Sp):Prop where
 len:∀ vs H Q E,sp vs H Q E->vs.length=ps.length
 run:∀ (A:Around) (outer:List Env) (s:Shared) (H:Hp) (args:Args) (us:List Value) (vs:List V) (Q:VK) (E:XK),Room k A->Env0 P w K mg base A outer s H->BindsTo s fd args (ps.zip us)->Vals vs us->sp vs H Q E ->
  codeAny (model P w) A (.call (.ref f) args) (CR CX outer P w H s Q E) s
theorem FnOk.mono{f:Addr}{sp:Sp} (F:FnOk P w K mg base CX j f fd ps sp) (h:j<=k) :
  FnOk P w K mg base CX k f fd ps sp:=⟨F.len,fun A outer s H args us vs Q E hr=>F.run A outer s H args us vs Q E (hr.mono h)⟩
theorem Env0.make (e:Env0 P w K mg base A outer s H) (C:Addr) (us:List Value) (kw:List (Str × Value)) :
  Env0 P w K mg base (A.under (.builtin "type.__call__" ⟨.ref C :: us,kw⟩)) outer s H:=⟨by first | exact e.frames | (simpa [Around.under,Code.envs,Code.isFrame,pushEnvs] using e.frames),e.mod,e.bs,e.bsz,e.funs,e.frf,e.hok,e.bare⟩
section
variable {X:Cx}{pins:List (Addr × Obj)}{σ:St}{H:Hp}{s s':Shared}
theorem Inv.env0 (I:Inv X pins σ H s):Env0 X.prog X.w X.K X.mg X.base X.A X.stack s H :=
 ⟨I.ok.frames,I.ok.mod,I.bs,B7 I.ok.bsz I.sz,I.stack,I.stkFree,I.hok,I.bare⟩
theorem Inv.after {Q:VK}{u:Value} (I:Inv X pins σ H s) (h:CE X.stack X.prog X.w H s Q u s'):EP X pins σ Q u s':=by
 obtain ⟨v,H',os,bare,un,hok,r,q⟩:=h;obtain ⟨hh,g,d,t,os'⟩:=s';obtain rfl:os'=s.os:=os;exact ⟨v,H',I.call (h':=hh) (g':=g) (d':=d) (t':=t) (ch:=[]) un hok bare (fun b z=>absurd z (by simp)),r,q⟩
end
def tCall (sp:Sp) (dvs:List V) (E:XK) (t:TA):TE:=fun σ H Q=>t σ H fun vs H1=>sp (vs++dvs) H1 Q E
def tMeth (C:Addr) (m:Str) (sp:Sp) (dvs:List V) (E:XK) (ta:TE) (t:TA):TE:=fun σ H Q=>ta σ H fun x H1=>∃ a dx fs,x=.ref a/\H1 a=some (.ins C dx fs)/\fs.lookup m=none /\
 t σ H1 fun vs H2=>sp (x :: (vs++dvs)) H2 Q E
def tMake (C:Addr) (sp:Sp) (dvs:List V) (E:XK) (t:TA):TE:=fun σ H Q=>t σ H fun vs H1=>∀ x dx,H1 x=none->H1 dx=none->dx≠x ->
 sp (.ref x :: (vs++dvs)) (upd (upd H1 dx (.own x)) x (.ins C dx [])) (fun v H2=>v=.non/\Q (.ref x) H2) E
def Binds (K:PySem.W.Frag) (fd:FuncData) (ps:List Str) (ds:List Value):Prop :=
 ∀ (s:Shared) (us:List Value),K.In s.heap->(us++ds).length=ps.length->BindsTo s fd ⟨us,[]⟩ (ps.zip (us++ds))
theorem Binds.all (h:∀ us:List Value,us.length=ps.length->bindArgs fd ⟨us,[]⟩=pure (ps.zip us)):Binds K fd ps []:=fun s us _ hl=>by
 rw [C8] at hl ⊢;exact .of_eq (h us hl)
def Passes (CX:CXT) (X:Cx) (E:XK):Prop:=∀ (pins:List (Addr × Obj)) (σ:St) (H:Hp) (s:Shared) (e:Value) (s':Shared),Inv X pins σ H s->CX X.stack H s E e s'->X.xe e s'
section
variable {X:Cx}{CX:CXT}{k:Nat}{f C:Addr}{fd:FuncData}{ps:List Str}{sp:Sp}{dvs:List V}{ds:List Value}{E:XK}{x m:Str}{p pos apos:Pos}{e o:Expr}{es:List Expr}{ta:TE}{t:TA}
theorem fZ {pins:List (Addr × Obj)}{σ:St}{H:Hp}{s:Shared}{Q:VK}{us:List Value}{vs:List V} (F:FnOk X.prog X.w X.K X.mg X.base CX k f fd ps sp) (hr:Room k X.A) (hb:Binds X.K fd ps ds) (hd:Vals dvs ds) (hx:Passes CX X E)
  (I:Inv X pins σ H s) (r:Vals vs us) (h:sp (vs++dvs) H Q E):wpAny (model X.prog X.w) X.A (call (.ref f) us) (EP X pins σ Q) X.xe s:=by
 have r2:Vals (vs++dvs) (us++ds):=r.append hd;have hl:(us++ds).length=ps.length:=by rw [<- r2.length]; exact F.len _ _ _ _ h
 refine wpAny_call (codeAny_mono (F.run X.A X.stack s H ⟨us,[]⟩ (us++ds) (vs++dvs) Q E hr I.env0 (hb s us I.kIn hl) r2 h) fun r s' hq=>?_)
 cases r with
 | error e=>exact hx pins σ H s e s' I hq
 | ok fl =>
  cases fl with
  | ret u=>exact I.after hq
  | next=>exact False.elim hq
  | brk=>exact False.elim hq
  | cont=>exact False.elim hq
theorem vf (F:FnOk X.prog X.w X.K X.mg X.base CX k f fd ps sp) (hr:Room k X.A) (hg:Gl X x) (hm:X.mg x=some (.ref f)) (hk:PySem.W.keepIn X.K (.ref f)=true) (hb:Binds X.K fd ps ds) (hd:Vals dvs ds) (hx:Passes CX X E)
  (ha:PA X (e :: es) t) (hdb:(x == ("__debug__" : Str))=false:=by decide) (he:starEach (e :: es) X.env=(false,eval e X.env) :: starEach es X.env:=by rfl) (hpl:(backTo pos (starEach es X.env)).any (·.1)=false:=by rfl) :
  PE X (.Call (.Name x p) (e :: es) [] pos) (tCall sp dvs E t):=by
 intro pins s σ H Q I h;refine wpAny_Call_Name_kw (iM I hg hm ?_ hdb);refine PySem.W.callWith_K (h₀:=X.base) I.ok.mod.kin hk (thn (ha pos pins s σ H _ I h) fun us s1 ⟨vs,H1,I1,r,q⟩=>⟨I1.kIn,?_⟩) he hpl
 exact fZ F hr hb hd hx I1 r q
theorem vg {pl:Sem Bool} (he:PE X o ta) (c:Cls X.K C) (hm:Meth X.K C m f) (F:FnOk X.prog X.w X.K X.mg X.base CX k f fd ps sp) (hr:Room k X.A) (hb:Binds X.K fd ps ds) (hd:Vals dvs ds) (hx:Passes CX X E) (ha:PA X (e :: es) t)
  (hst:starEach (e :: es) X.env=(false,eval e X.env) :: starEach es X.env:=by rfl) (hpl:(backTo pos (starEach es X.env)).any (·.1)=false:=by rfl)
  (ht:eval (.Call (.Attribute o m apos) (e :: es) [] pos) X.env=(do
   let ov <- eval o X.env
   standAt apos.atName
   let (f,first) <- holding [ov] (getMethod ov m pl)
   callWith pos f first (backTo pos (starEach (e :: es) X.env)) (backToKw pos (keywordEach [] X.env))):=by rfl) :
  PE X (.Call (.Attribute o m apos) (e :: es) [] pos) (tMeth C m sp dvs E ta t):=by
 intro pins s σ H Q I h;refine PySem.W.methodCall_KW (pl:=pl) (thn (he pins s σ H _ I h) fun u s1 ⟨x,H1,I1,rx,a,dx,fs,ex,ea,l,q⟩=>?_) ht
 subst ex;obtain rfl:u=Value.ref a:=rx;refine mq I1 ea c hm l ?_;refine PySem.W.callWith_K (first:=[.ref a]) (h₀:=X.base) I.ok.mod.kin hm.kp (thn (ha pos pins s1 σ H1 _ I1 q) fun us s2 ⟨vs,H2,I2,r,q2⟩=>⟨I2.kIn,?_⟩) hst hpl
 exact fZ (us:=.ref a :: us) (vs:=.ref a :: vs) F hr hb hd hx I2 (.cons rfl r) q2
theorem vh {pl:Sem Bool} (he:PE X o ta) (c:Cls X.K C) (hm:Meth X.K C m f) (F:FnOk X.prog X.w X.K X.mg X.base CX k f fd ps sp) (hr:Room k X.A) (hb:Binds X.K fd ps ds) (hd:Vals dvs ds) (hx:Passes CX X E)
  (ht:eval (.Call (.Attribute o m apos) [] [] pos) X.env=(do
   let ov <- eval o X.env
   standAt apos.atName
   let (f,first) <- holding [ov] (getMethod ov m pl)
   callWith pos f first (backTo pos (starEach [] X.env)) (backToKw pos (keywordEach [] X.env))):=by rfl) :
  PE X (.Call (.Attribute o m apos) [] [] pos) (tMeth C m sp dvs E ta tNil):=by
 intro pins s σ H Q I h;refine PySem.W.methodCall_KW (pl:=pl) (thn (he pins s σ H _ I h) fun u s1 ⟨x,H1,I1,rx,a,dx,fs,ex,ea,l,q⟩=>?_) ht
 subst ex;obtain rfl:u=Value.ref a:=rx;refine mq I1 ea c hm l ?_;exact PySem.W.callWith_K0 (first:=[.ref a]) I1.kIn hm.kp (fZ (us:=[.ref a]) (vs:=[.ref a]) F hr hb hd hx I1 (.cons rfl .nil) q)
structure Mk (K:PySem.W.Frag) (C f:Addr):Prop where
 makes:PySem.W.makesIn K C=true
 init:PySem.W.findIn K (.ref C) "__init__" = some (some (.ref f))
 fn:PySem.W.isFn K (.ref f)=true
 kp:PySem.W.keepIn K (.ref C)=true
theorem vi {pins:List (Addr × Obj)}{σ:St}{H:Hp}{s:Shared}{Q:VK}{us:List Value}{vs:List V} (M:Mk X.K C f) (F:FnOk X.prog X.w X.K X.mg X.base CX k f fd ps sp) (hr:Room (k + 1) X.A) (hb:Binds X.K fd ps ds) (hd:Vals dvs ds)
  (hx:Passes CX X E) (I:Inv X pins σ H s) (r:Vals vs us)
  (h:∀ x dx,H x=none->H dx=none->dx≠x->sp (.ref x :: (vs++dvs)) (upd (upd H dx (.own x)) x (.ins C dx [])) (fun v H2=>v=.non/\Q (.ref x) H2) E) :
  wpAny (model X.prog X.w) X.A (call (.ref C) us) (EP X pins σ Q) X.xe s:=by
 have hq:=h (s.heap.objs.size + 1) s.heap.objs.size (I.hok.fresh (Nat.le_succ _)) (I.hok.fresh (BI _)) (BS (Nat.lt_succ_self _));have I2:=Inv.made (C:=C) I;have r2:Vals (V.ref (s.heap.objs.size + 1) :: (vs++dvs)) (Value.ref (s.heap.objs.size + 1) :: (us++ds)):=.cons rfl (r.append hd);have hl:(Value.ref (s.heap.objs.size + 1) :: us++ds).length=ps.length:=by
  have e:=r2.length;rw [F.len _ _ _ _ hq] at e;exact e.symm
 refine wpAny_call (uT (f:=f) I.kIn M.makes M.init (beq_iff_eq.mp M.fn) (codeAny_mono (F.run _ X.stack _ _ ⟨Value.ref (s.heap.objs.size + 1) :: us,[]⟩ (Value.ref (s.heap.objs.size + 1) :: (us++ds)) _ _ E (hr.make C us [])
  (I2.env0.make C us []) (hb _ (Value.ref (s.heap.objs.size + 1) :: us) I2.kIn hl) r2 hq) fun r s' hq'=>?_))
 cases r with
 | error e=>exact hx pins σ _ _ e s' I2 hq'
 | ok fl =>
  cases fl with
  | ret u =>
   obtain ⟨v,H',I3,rv,ev,q3⟩:=I2.after hq';subst ev;exact ⟨rv,⟨V.ref (s.heap.objs.size + 1),H',I3,rfl,q3⟩⟩
  | next=>exact False.elim hq'
  | brk=>exact False.elim hq'
  | cont=>exact False.elim hq'
theorem vj (M:Mk X.K C f) (F:FnOk X.prog X.w X.K X.mg X.base CX k f fd ps sp) (hr:Room (k + 1) X.A) (hg:Gl X x) (hm:X.mg x=some (.ref C)) (hb:Binds X.K fd ps ds) (hd:Vals dvs ds) (hx:Passes CX X E)
  (ha:PA X (e :: es) t) (hdb:(x == ("__debug__" : Str))=false:=by decide) (he:starEach (e :: es) X.env=(false,eval e X.env) :: starEach es X.env:=by rfl) (hpl:(backTo pos (starEach es X.env)).any (·.1)=false:=by rfl) :
  PE X (.Call (.Name x p) (e :: es) [] pos) (tMake C sp dvs E t):=by
 intro pins s σ H Q I h;refine wpAny_Call_Name_kw (iM I hg hm ?_ hdb);refine PySem.W.callWith_K (h₀:=X.base) I.ok.mod.kin M.kp (thn (ha pos pins s σ H _ I h) fun us s1 ⟨vs,H1,I1,r,q⟩=>⟨I1.kIn,?_⟩) he hpl
 exact vi M F hr hb hd hx I1 r q
end
structure FnScope (N P:List Str) (sc:Scope):Prop where
 kind:sc.kind=.function
 co:sc.isCoroutine=false
 gen:sc.isGenerator=false
 nd:N.Nodup
 pre:N.take P.length=P
 par:∀ x∈P,sc.names.lookup x=some .local\/sc.names.lookup x=some .cell
 nofree:∀ y∈sc.names,y.2≠.free
theorem mx{x:Str}:∀ {binds:List (Str × Value)}{m:Str->Option Value},(∀ v,(x,v) ∉ binds)->bindL kindOf binds m x=m x
 | [],_,_=>rfl
 | (n,v) :: r,m,h=>by
  unfold bindL;rw [mx fun w hw=>h w (CD _ hw)]
  split
  ·have:x≠n:=by rintro rfl; exact h v CC
   simp [this]
  ·rfl
theorem my{x:Str}:∀ {binds:List (Str × Value)}{m:Str->Option Value},(∀ v,(x,v) ∉ binds)->bindC kindOf binds m x=m x
 | [],_,_=>rfl
 | (n,v) :: r,m,h=>by
  unfold bindC;rw [my fun w hw=>h w (CD _ hw)]
  split
  ·rfl
  ·have:x≠n:=by rintro rfl; exact h v CC
   simp [this]
theorem mB{x:Str}{v:Value}:∀ {P:List Str}{vs:List Value}{i:Nat}{m:Str->Option Value},P.Nodup->P[i]?=some x->vs[i]?=some v->kindOf x=some .local ->
  bindL kindOf (P.zip vs) m x=some v
 | [],_,_,_,_,h,_,_=>by simp at h
 | _ :: _,[],_,_,_,_,h,_=>by simp at h
 | p :: P,w :: vs,0,m,nd,h1,h2,hk=>by
  simp at h1 h2; subst h1; subst h2;show bindL kindOf ((p,w) :: P.zip vs) m p=_;unfold bindL;rw [mx fun v hv=>(CU.mp nd).1 (List.of_mem_zip hv).1,if_pos hk]
  simp
 | p :: P,w :: vs,i + 1,m,nd,h1,h2,hk=>by
  show bindL kindOf ((p,w) :: P.zip vs) m x=_;unfold bindL;exact mB (i:=i) (CU.mp nd).2 (by simpa using h1) (by simpa using h2) hk
theorem mC{x:Str}{v:Value}:∀ {P:List Str}{vs:List Value}{i:Nat}{m:Str->Option Value},P.Nodup->P[i]?=some x->vs[i]?=some v->kindOf x≠some .local ->
  bindC kindOf (P.zip vs) m x=some v
 | [],_,_,_,_,h,_,_=>by simp at h
 | _ :: _,[],_,_,_,_,h,_=>by simp at h
 | p :: P,w :: vs,0,m,nd,h1,h2,hk=>by
  simp at h1 h2; subst h1; subst h2;show bindC kindOf ((p,w) :: P.zip vs) m p=_;unfold bindC;rw [my fun v hv=>(CU.mp nd).1 (List.of_mem_zip hv).1,if_neg hk]
  simp
 | p :: P,w :: vs,i + 1,m,nd,h1,h2,hk=>by
  show bindC kindOf ((p,w) :: P.zip vs) m x=_;unfold bindC;exact mC (i:=i) (CU.mp nd).2 (by simpa using h1) (by simpa using h2) hk
def start (N:List Str) (vs:List V):St:=vs.map some++List.replicate (N.length - vs.length) none
def cxOf (CX:CXT) (P:Program) (w:World) (K:PySem.W.Frag) (mg:Str->Option Value) (base:Heap) (N:List Str) (qual:Str) (scope:Scope) (f:Addr) (cd:Value) (A:Around) (outer:List Env) (s:Shared) (H:Hp) (E:XK):Cx where
 prog:=P
 w:=w
 K:=K
 mg:=mg
 base:=base
 A:=A.deeper (envOfC qual scope s.heap.objs.size f cd)
 N:=N
 s₀:=s
 H₀:=H
 env:=envOfC qual scope s.heap.objs.size f cd
 outer:=outer
 stack:=envOfC qual scope s.heap.objs.size f cd :: outer
 ex:=[]
 calm:=true
 fn:=fun _=>true
 pn:=[]
 xe:=fun e s'=>wpAny (model P w) (A.deeper (envOfC qual scope s.heap.objs.size f cd)) (leaving (envOfC qual scope s.heap.objs.size f cd) e) (fun _ s''=>CX outer H s E e s'') (fun e' s''=>CX outer H s E e' s'') s'
theorem mD {sc:Scope}{n:Nat}{x:Str} (h:sc.names.lookup x=some .cell):∃ c,(cellsFrom n sc.names []).lookup x=some c:=by
 have q:=PySem.W.cellsFrom_some sc.names n [] (.inl h);exact Option.isSome_iff_exists.mp q
theorem vk {CX:CXT}{P:Program}{w:World}{K:PySem.W.Frag}{mg:Str->Option Value}{base:Heap}{N ps:List Str}{qual:Str}{scope:Scope}{f:Addr}{cd:Value}{A:Around}{outer:List Env}{s s1:Shared}{H:Hp}{E:XK}{us:List Value}{vs:List V}
  (S:FnScope N ps scope) (hd:A.handled=none) (e0:Env0 P w K mg base A outer s H) (hl:vs.length=ps.length) (r:Vals vs us)
  (x:InCallC s s.heap.objs.size (bindL (envOfC qual scope s.heap.objs.size f cd).kindOf (ps.zip us) fun _=>none) (cellsFrom (s.heap.objs.size + 1) scope.names []) (bindC (envOfC qual scope s.heap.objs.size f cd).kindOf (ps.zip us) fun _=>none) s1) :
  Inv (cxOf CX P w K mg base N qual scope f cd A outer s H E) [] (start N vs) H s1:=by
 have hpl:ps.length<=N.length:=by have:=Cs List.length S.pre; rw [B8] at this; omega
 obtain ⟨h1,tk,rfl,hk⟩:=x.done;have noA:∀ b:Addr,b ∉ (cxOf CX P w K mg base N qual scope f cd A outer s H E).ex:=fun b z=>absurd (show b∈([]:List Addr) from z) (by simp)
 refine ⟨⟨e0.mod,S.kind,rfl,rfl,BI _,fun y z c h1 h2=>?_,fun y hy=>?_,fun y c _ h=>?_,fun _=>hd,Around.frames_deeper e0.frames,.inr ⟨rfl,rfl⟩,fun b z=>absurd z (noA b),e0.bs,e0.bsz,fun b _ _=>noA b,fun b z=>absurd z (noA b),e0.funs,e0.frf⟩,
  rfl,e0.bare,Un.kept hk,⟨_,x.toInCall.ns,fun i y v h1 h2 h3=>?_⟩,fun y c h=>⟨_,x.cell y c h⟩,e0.hok.fresh (BI _),fun y c h=>?_,fun p hp=>absurd (show p∈([]:List (Addr × Obj)) from hp) (by simp),e0.hok.kept hk,?_⟩
 ·exact name_of_addr x.apart (PySem.mem_of_lookup h1) (PySem.mem_of_lookup h2)
 ·have hy:scope.names.lookup y=some .cell\/scope.names.lookup y=some .free:=hy
  rcases hy with hy | hy
  ·exact mD hy
  ·exact absurd rfl (S.nofree _ (PySem.mem_of_lookup hy))
 ·exact Ce (x.above y c (PySem.mem_of_lookup h))
 ·have hi:i < vs.length:=by
   unfold start at h2
   by_cases hi:i < vs.length
   ·exact hi
   ·rw [CV (by simpa using hi)] at h2
    rw [List.getElem?_replicate] at h2
    split at h2 <;> cases h2
  have ha:vs[i]?=some v:=by
   unfold start at h2;rw [CM (by simpa using hi),BN] at h2
   cases e:vs[i]? with
   | none=>rw [e] at h2; cases h2
   | some a=>rw [e] at h2; cases h2; rfl
  obtain ⟨u,hu,rv⟩:=r.get ha;have hp:ps[i]?=some y:=by
   rw [<- S.pre,List.getElem?_take_of_lt (by omega)]; exact h1
  have ndP:ps.Nodup:=by rw [<- S.pre]; exact S.nd.sublist (List.take_sublist _ _)
  refine ⟨u,rv,?_⟩;rcases S.par y (BO hp) with k | k
  ·exact .inl ⟨k,mB ndP hp hu k⟩
  ·obtain ⟨c,e⟩:=mD (n:=s.heap.objs.size + 1) k
   refine .inr ⟨.inl k,c,e,?_⟩;have q:=x.cell y c e;rw [mC ndP hp hu (by show scope.names.lookup y≠_; rw [k]; decide)] at q
   exact q
 ·exact e0.hok.fresh (Ce (x.above y c (PySem.mem_of_lookup h)))
 ·unfold start
  show _=N.length;rw [BU,BF,DB];omega
theorem vm {CX:CXT}{P:Program}{w:World}{K:PySem.W.Frag}{mg:Str->Option Value}{base:Heap}{k:Nat}{f:Addr}{name qual:Str}{params:Arguments}{body:List Stmt}{scope:Scope}{dV kV doc pm cdv ct oc:Value}{an od:Option Addr}
  {osl:Array (Option Value)}{N ps:List Str}{sp:Sp} (lk:K.lookup f=some ⟨oc,od,.func (PySem.W.fnOf name qual params body scope dV kV doc pm an cdv ct),osl⟩) (hcd:PySem.W.codeIn K cdv qual=true) (S:FnScope N ps scope)
  (len:∀ vs H Q E,sp vs H Q E->vs.length=ps.length)
  (hbody:∀ (A:Around) (outer:List Env) (s:Shared) (H:Hp) (vs:List V) (Q:VK) (E:XK),Room k (A.deeper (envOfC qual scope s.heap.objs.size f cdv))->sp vs H Q E ->
   ∃ t,PSs (cxOf CX P w K mg base N qual scope f cdv A outer s H E) body t/\t { nx:=fun _ H'=>Q .non H',rt:=Q } (start N vs) H) :
  FnOk P w K mg base CX (k + 1) f (PySem.W.fnOf name qual params body scope dV kV doc pm an cdv ct) ps sp:=by
 refine ⟨len,fun A outer s H args us vs Q E hr e0 hb r hsp=>?_⟩
 have hl:=len _ _ _ _ hsp;have KX:K.In s.heap:=e0.mod.kin.keeps fun b o e=>(e0.bs b o e).1
 have lim:s.heap.NoLimit:=e0.mod.nolimit.keeps fun b o e=>(e0.bs b o e).1
 have hkind:∀ y∈ps.zip us,scope.names.lookup y.1=some .local\/(scope.names.lookup y.1=some .cell/\((cellsFrom (s.heap.objs.size + 1) scope.names []).lookup y.1).isSome=true):=fun ⟨n,v⟩ hy=>by
  rcases S.par n (List.of_mem_zip hy).1 with q | q
  ·exact .inl q
  ·exact .inr ⟨q,PySem.W.cellsFrom_some _ _ _ (.inl q)⟩
 refine codeAny_call_function hr.depth (KX _ _ lk) rfl S.co S.gen rfl (PySem.W.codeRec_of KX hcd) (hb _ _ _ _ ?_);refine wpAny_newFunctionEnv_cells S.kind hkind fun env he s1 x=>?_
 subst he;refine ⟨lim.keeps x.toInCall.keep,codeAny_func ?_⟩;obtain ⟨t,ht,hq⟩:=hbody A outer s H vs Q E (hr.deeper _) hsp;have I:Inv (cxOf CX P w K mg base N qual scope f cdv A outer s H E) [] (start N vs) H s1:=vk S hr.hd e0 hl r x;refine Cf (ht [] s1 (start N vs) H _ I hq) (fun fl s' hs=>?_) fun e s' hs=>hs
 have fin:∀ {σ':St}{H':Hp}{v:V}{u:Value},Inv (cxOf CX P w K mg base N qual scope f cdv A outer s H E) [] σ' H' s'->RelV v u->Q v H'->CE outer P w H s Q u s' :=
  fun {σ' H' v u} J rv q=>⟨v,H',J.os,J.bare,J.base,J.hok,rv,q⟩
 cases fl with
 | ret u =>
  obtain ⟨v,σ',H',J,rv,q⟩:=hs;exact fin J rv q
 | next =>
  obtain ⟨σ',H',J,q⟩:=hs;exact fin (v:=V.non) (u:=Value.none) J rfl q
 | brk =>
  obtain ⟨_,_,_,q⟩:=hs;exact False.elim q
 | cont =>
  obtain ⟨_,_,_,q⟩:=hs;exact False.elim q
section
variable {X:Cx}{x:Str}{p pos:Pos}{e:Expr}{es:List Expr}{t:TA}{id T:String}{r:List V->Hp->VK->Prop}
def tCB (r:List V->Hp->VK->Prop) (t:TA):TE:=fun σ H Q=>t σ H fun vs H1=>r vs H1 Q
theorem vn (hc:CallR X (.builtin id) r) (hg:Gl X x) (hm:X.mg x=none) (hv:bootBuiltins x=some (.builtin id)) (ha:PA X (e :: es) t) (hn:x ≠ "__name__" := by decide) (hdb:(x == ("__debug__" : Str))=false:=by decide)
  (he:starEach (e :: es) X.env=(false,eval e X.env) :: starEach es X.env:=by rfl) (hpl:(backTo pos (starEach es X.env)).any (·.1)=false:=by rfl):PE X (.Call (.Name x p) (e :: es) [] pos) (tCB r t):=by
 intro pins s σ H Q I h;refine wpAny_Call_Name_kw (dz I hg hm hv ?_ hn hdb);exact PyProof.Rows.callWith_builtin1 (thn (ha pos pins s σ H _ I h) fun us s1 ⟨vs,H1,I1,r1,q1⟩=>hc pins s1 σ H1 vs us Q I1 r1 q1) he hpl
theorem vo (hc:CallR X (.type T) r) (hg:Gl X x) (hm:X.mg x=none) (hv:bootBuiltins x=some (.type T)) (ha:PA X (e :: es) t) (hn:x ≠ "__name__" := by decide) (hdb:(x == ("__debug__" : Str))=false:=by decide)
  (he:starEach (e :: es) X.env=(false,eval e X.env) :: starEach es X.env:=by rfl) (hpl:(backTo pos (starEach es X.env)).any (·.1)=false:=by rfl):PE X (.Call (.Name x p) (e :: es) [] pos) (tCB r t):=by
 intro pins s σ H Q I h;refine wpAny_Call_Name_kw (dz I hg hm hv ?_ hn hdb);exact DA (thn (ha pos pins s σ H _ I h) fun us s1 ⟨vs,H1,I1,r1,q1⟩=>hc pins s1 σ H1 vs us Q I1 r1 q1) he hpl
end
end L2
namespace HT
open PySem PyProof.Rows
variable{sl:Addr}{vl vu:Value}{lo hi:Option Int}
section
variable {prog:Program}{w:World}{A:Around}{E:Value->Shared->Prop}{s:Shared}
def sIx (n d:Nat):Option Int->Nat
 | none=>d
 | some v=>if v < 0 then (v + (n:Int)).toNat else min v.toNat n
theorem vp (n d:Nat) (hd:d<=n) (o:Option Int):sIx n d o<=n:=by
 cases o with
 | none=>exact hd
 | some v =>
  show (if v < 0 then (v + (n:Int)).toNat else min v.toNat n)<=n
  by_cases hv:v < 0
  ·rw [if_pos hv]; omega
  ·rw [if_neg hv]; exact Nat.min_le_right _ _
theorem mE (v:Int) (n d:Nat):(if v < 0 then max (v + (n:Int)) 0 else min v (n:Int))=((sIx n d (some v):Nat):Int):=by
 show (if v < 0 then max (v + (n:Int)) 0 else min v (n:Int))=(((if v < 0 then (v + (n:Int)).toNat else min v.toNat n):Nat):Int)
 by_cases hv:v < 0
 ·simp only [if_pos hv]; omega
 ·simp only [if_neg hv]; omega
theorem vq (lo hi:Option Int) (n:Nat):Builtin.Slice.sliceAdjust lo hi 1 (n:Int)=(((sIx n 0 lo:Nat):Int),((sIx n n hi:Nat):Int)):=by
 have h1:¬ ((1:Int) < 0):=by omega
 unfold Builtin.Slice.sliceAdjust;simp only [h1,Cc];refine Prod.ext ?_ ?_
 ·cases lo with
  | none=>rfl
  | some v=>exact mE v n 0
 ·cases hi with
  | none=>rfl
  | some v=>exact mE v n n
theorem vt (i j:Nat):Builtin.Slice.slicePlaces (i:Int) (j:Int) 1=j - i:=by
 unfold Builtin.Slice.slicePlaces;have h1:(1:Int) > 0:=by omega
 simp only [h1,if_true,Int.ediv_one]
 split <;> omega
theorem mF {v:Value}{o:Option Int}{Q:Option Int->Shared->Prop} (p:IsPart v o) (h:Q o s):wpAny (model prog w) A (Builtin.Slice.slicePartIndex v) Q E s:=by
 cases p with
 | none=>exact slicePart_none h
 | int i t=>exact slicePart_int h
theorem vv{n:Nat}{Q:Int × Int × Nat->Shared->Prop} (hs:s.heap.IsSliceOf sl vl vu .none) (pl:IsPart vl lo) (pu:IsPart vu hi)
  (h:Q (((sIx n 0 lo:Nat):Int),1,sIx n n hi - sIx n 0 lo) s):wpAny (model prog w) A (Builtin.Slice.sliceApplied (.ref sl) (pure (n:Int))) Q E s:=by
 obtain ⟨os,hos,hcs,hds⟩:=id hs;unfold Builtin.Slice.sliceApplied Builtin.Slice.sliceFields;refine BE (BE (Cg hos hds (x:=vl) rfl (BE (Cg hos hds (x:=vu) rfl (BE (Cg hos hds (x:=.none) rfl (BG ?_)))))));refine BE (slicePart_none ?_);show wpAny _ _ (if ((1:Int) == 0)=true then _ else _) _ _ s;rw [if_neg (by decide)]
 refine BE (mF pl (BE (mF pu (BE (BG ?_)))));show wpAny _ _ (match Builtin.Slice.sliceAdjust lo hi 1 (n:Int) with | (lo,hi)=>pure (lo,(1:Int),Builtin.Slice.slicePlaces lo hi 1)) _ _ s
 rw [vq lo hi n];show wpAny _ _ (pure (((sIx n 0 lo:Nat):Int),(1:Int),Builtin.Slice.slicePlaces ((sIx n 0 lo:Nat):Int) ((sIx n n hi:Nat):Int) 1)) _ _ s;rw [vt];exact BG h
theorem vy (xs:Array Value) (i k:Nat):((List.range k).filterMap fun (m:Nat)=>xs[((i:Int) + (m:Int) * 1).toNat]?).toArray=((xs.toList.drop i).take k).toArray:=by
 have e:(fun (m:Nat)=>xs[((i:Int) + (m:Int) * 1).toNat]?)=fun m=>xs[i + m]?:=by
  funext m
  have:((i:Int) + (m:Int) * 1).toNat=i + m:=by omega
  rw [this]
 rw [e];have:=pick_run xs i k;rw [List.filterMap_map] at this;have e2:((fun x=>xs[x]?) ∘ fun x=>i + x)=fun m=>xs[i + m]?:=rfl
 rw [e2] at this;rw [this]
theorem getItem_tuple_cut {t:Addr}{items:Array Value}{Q:Value->Shared->Prop} (ht:IsTup s.heap t items) (hs:s.heap.IsSliceOf sl vl vu .none) (pl:IsPart vl lo) (pu:IsPart vu hi)
  (hw:¬ (sIx items.size 0 lo=0/\sIx items.size items.size hi=items.size))
  (h:Q (.ref s.heap.objs.size) { s with heap:=s.heap.push { cls:=.type "tuple",data:=.seq ((items.toList.drop (sIx items.size 0 lo)).take (sIx items.size items.size hi - sIx items.size 0 lo)).toArray } })
  (hsz:items.size<=sizeLine):wpAny (model prog w) A (getItem (.ref t) (.ref sl)) Q E s:=by
 have htake:sizeOk (.seq ((items.toList.drop (sIx items.size 0 lo)).take (sIx items.size items.size hi - sIx items.size 0 lo)).toArray):=by
  show ((items.toList.drop (sIx items.size 0 lo)).take (sIx items.size items.size hi - sIx items.size 0 lo)).toArray.size<=sizeLine;rw [BZ,B8,List.length_drop,Array.length_toList];omega
 have hj:sIx items.size items.size hi<=items.size:=vp _ _ (BI _) hi;obtain ⟨os,hos,hcs,hds⟩:=id hs;have hTs:s.TypeIs (.ref sl) "slice" := ⟨os,hos,hcs⟩;unfold getItem
 try with_reducible refine Cz ?_
 first | refine BE (BG ?_) | skip
 refine BE (wpAny_sequenceKey ht.typeIs (by decide) ?_)
 refine BE (C9 (name:=Str.ofString "__getitem__") ht.typeIs PyProof.Rows.slot_tuple_getitem
  (CW PyProof.Rows.slot_tuple_getitem ht.typeIs entry_tuple_getitem ?_ (args_tuple_getitem _ _)))
 show wpAny _ _ (Builtin.Tuple.tupleItemsOf (.ref t) >>= _) _ _ s;refine BE (tupleItemsOf_ ht ?_);refine BE (wpAny_typeOf hTs ?_);rw [if_pos (by decide)]
 refine BE (vv hs pl pu ?_);have hno:¬ ((((sIx items.size 0 lo:Nat):Int) == 0 && (1:Int) == 1 && (sIx items.size items.size hi - sIx items.size 0 lo) == items.size)=true):=by
  intro q;rw [Bool.and_eq_true,Bool.and_eq_true] at q;have q1:((sIx items.size 0 lo:Nat):Int)=0:=eq_of_beq q.1.1;have q2:sIx items.size items.size hi - sIx items.size 0 lo=items.size:=eq_of_beq q.2;exact hw ⟨by omega,by omega⟩
 show wpAny _ _ (if (((sIx items.size 0 lo:Nat):Int) == 0 && (1:Int) == 1 && (sIx items.size items.size hi - sIx items.size 0 lo) == items.size)=true then _ else _) _ _ s;rw [if_neg hno,vy]
 first
  | exact BE (m:=Builtin.Tuple.tupleExact _) (C5 (BG ⟨_,rfl,BG h⟩) htake)
  | exact BE (m:=Builtin.Tuple.tupleExact _) (C5 (BE (BG (BG ⟨_,rfl,BG h⟩))) htake)
  | exact BE (BE (m:=Builtin.Tuple.tupleExact _) (C5 (BG (BG ⟨_,rfl,BG h⟩)) htake))
  | exact BE (BE (m:=Builtin.Tuple.tupleExact _) (C5 (BG ⟨_,rfl,BG h⟩) htake))
end
end HT
namespace L2
open PySem PySem.Spec PyProof.Rows
variable{n j t':Nat}{i:Int}{v u:Value}{pins:List (Addr × Obj)}{σ:St}{H:Hp}{s:Shared}{p:Addr}{xs:List V}{its its' us:List Value}{A:Around}{y x:V}
abbrev TO:=St->Hp->(Option Int->Hp->Prop)->Prop
def PO (X:Cx) (e:Option Expr) (t:TO):Prop :=
 ∀ (pins:List (Addr × Obj)) (s:Shared) (σ:St) (H:Hp) (Q:Option Int->Hp->Prop),Inv X pins σ H s->t σ H Q ->
  wpAny (model X.prog X.w) X.A (evalPart e X.env) (fun u s'=>∃ o H',Inv X pins σ H' s'/\IsPart u o/\Q o H') X.xe s
def tNoPart:TO:=fun _ H Q=>Q none H
def tPart (t:TE):TO:=fun σ H Q=>t σ H fun x H1=>∃ i,x=.int i/\Q (some i) H1
section
variable {X:Cx}{e:Expr}{te:TE}{lo hi:Option Expr}{tl th:TO}{pos p2:Pos}
theorem vz:PO X none tNoPart:=by
 intro pins s σ H Q I h;rw [evalPart_none];exact BG ⟨none,H,I,.none,h⟩
theorem vA (h:PE X e te):PO X (some e) (tPart te):=by
 intro pins s σ H Q I hw;rw [evalPart_some];refine thn (h pins s σ H _ I hw) fun u s1 ⟨x,H1,I1,r1,q1⟩=>?_
 obtain ⟨i,rfl,q⟩:=q1;obtain ⟨t,rfl⟩:=r1;exact ⟨some i,H1,I1,.int i t,q⟩
def SlR (X:Cx) (r:V->Option Int->Option Int->Hp->VK->Prop):Prop :=
 ∀ (pins:List (Addr × Obj)) (s:Shared) (σ:St) (H:Hp) (x:V) (v vl vu:Value) (lo hi:Option Int) (sl:Addr) (Q:VK),Inv X pins σ H s->RelV x v->s.heap.IsSliceOf sl vl vu .none->IsPart vl lo->IsPart vu hi->r x lo hi H Q ->
  ∃ T id,typeLookup (.type T) "__getitem__" = pure (some (.builtin id))/\s.TypeIs v T/\wpAny (model X.prog X.w) X.A (getItem v (.ref sl)) (EP X pins σ Q) X.xe s
def tSl (r:V->Option Int->Option Int->Hp->VK->Prop) (te:TE) (tl th:TO):TE:=fun σ H Q=>te σ H fun x H1=>tl σ H1 fun l H2=>th σ H2 fun u H3=>r x l u H3 Q
theorem vB {r:V->Option Int->Option Int->Hp->VK->Prop} (hr:SlR X r) (he:PE X e te) (hl:PO X lo tl) (hu:PO X hi th):PE X (.Subscript e (.Slice lo hi none p2) pos) (tSl r te tl th):=by
 intro pins s σ H Q I h;refine Subscript_ (thn (he pins s σ H _ I h) fun v s1 ⟨x,H1,I1,r1,q1⟩=>?_)
 refine wpAny_Slice (thn (hl pins s1 σ H1 _ I1 q1) fun vl s2 ⟨l,H2,I2,pl,q2⟩=>thn (hu pins s2 σ H2 _ I2 q2) fun vu s3 ⟨u,H3,I3,pu,q3⟩=>?_)
 rw [evalPart_none];refine BG ?_;have I4:Inv X pins σ H3 { s3 with heap:=s3.heap.push { cls:=.type "slice",data:=.fields #[vl,vu,.none] } }:=I3.kept (t':=s3.toks) fun b ob q=>BK _ q
 obtain ⟨T,id,hT,ht,hg⟩:=hr pins { s3 with heap:=s3.heap.push { cls:=.type "slice",data:=.fields #[vl,vu,.none] } } σ H3 x v vl vu l u s3.heap.objs.size Q I4 r1 (Heap.IsSliceOf.new ..) pl pu q3
 show wpAny (model X.prog X.w) X.A (subscriptTail e (.Slice lo hi none p2) v (.ref s3.heap.objs.size)) (EP X pins σ Q) X.xe { s3 with heap:=s3.heap.push { cls:=.type "slice",data:=.fields #[vl,vu,.none] } }
 exact tail_any (ops:=[.ref s3.heap.objs.size,v]) ht hT hg (by with_unfolding_all rfl)
def cutV (xs:List V) (lo hi:Option Int):List V:=(xs.drop (HT.sIx xs.length 0 lo)).take (HT.sIx xs.length xs.length hi - HT.sIx xs.length 0 lo)
theorem iQ (xs:List V) (lo hi:Option Int):(cutV xs lo hi).length<=xs.length:=by
 unfold cutV;rw [B8,List.length_drop];omega
def rSlT (K:PySem.W.Frag):V->Option Int->Option Int->Hp->VK->Prop:=fun x lo hi H Q=>∃ a xs,x=.ref a/\SqT K H a xs /\
 ¬ (HT.sIx xs.length 0 lo=0/\HT.sIx xs.length xs.length hi=xs.length)/\∀ p,H p=none->Q (.ref p) (upd H p (.tup (cutV xs lo hi)))
theorem mG:SlR X (rSlT X.K):=by
 intro pins s σ H x v vl vu lo hi sl Q I rx hs pl pu h;obtain ⟨a,xs,rfl,hx,hw,q⟩:=h;cases rx;obtain ⟨its,r,ht,hz⟩:=I.tuple hx;have hlen:its.toArray.size=xs.length:=by rw [BZ]; exact r.length.symm
 refine ⟨"tuple",_,PyProof.Rows.slot_tuple_getitem.lookup,ht.typeIs,?_⟩;refine HT.getItem_tuple_cut ht hs pl pu (by rw [hlen]; exact hw) ?_ (by rw [hlen]; exact hz)
 rw [hlen];refine ⟨.ref s.heap.objs.size,_,I.laid (t':=s.toks) (o:=.tup (cutV xs lo hi)) (fun b ob q=>BK _ q) (BI _) ?_,rfl,q _ (I.hok.fresh (BI _))⟩
 exact ⟨B7 (iQ xs lo hi) hz,_,(r.drop (HT.sIx xs.length 0 lo)).take (HT.sIx xs.length xs.length hi - HT.sIx xs.length 0 lo),IsTup.new _ _⟩
end
def ixN (n:Nat) (i:Int):Option Nat:=if 0<=i then (if i < n then some i.toNat else none) else if -(n:Int)<=i then some (i + n).toNat else none
def atI {α:Type} (xs:List α) (i:Int):Option α:=(ixN xs.length i).bind fun j=>xs[j]?
theorem mH (h:ixN n i=some j):seqIndex? i n=some j/\j < n/\-(n:Int)<=i/\i < n:=by
 unfold ixN at h
 by_cases h0:0<=i
 ·rw [if_pos h0] at h
  by_cases h1:i < n
  ·rw [if_pos h1] at h
   have e:i.toNat=j:=Ca h;exact ⟨by rw [seqIndex_of h0 h1,e],by omega,by omega,h1⟩
  ·rw [if_neg h1] at h; cases h
 ·rw [if_neg h0] at h
  by_cases h1:-(n:Int)<=i
  ·rw [if_pos h1] at h
   have e:(i + n).toNat=j:=Ca h;exact ⟨by rw [seqIndex_neg (by omega) h1,e],by omega,h1,by omega⟩
  ·rw [if_neg h1] at h; cases h
theorem mI {α:Type}{xs:List α}{v:α} (h:atI xs i=some v):∃ j,seqIndex? i xs.length=some j/\xs[j]?=some v/\j < xs.length/\-(xs.length:Int)<=i/\i < xs.length:=by
 unfold atI at h;cases e:ixN xs.length i with
 | none=>rw [e] at h; cases h
 | some j =>
  rw [e] at h;obtain ⟨h1,h2,h3,h4⟩:=mH e;exact ⟨j,h1,h,h2,h3,h4⟩
theorem bW {α:Type}{xs:List α}{j:Nat}{v:α} (h:xs[j]?=some v):atI xs (j:Int)=some v:=by
 have hj:j < xs.length:=(BX.mp h).1;have e:ixN xs.length (j:Int)=some j:=by
  unfold ixN;rw [if_pos (by omega),if_pos (by omega)]; simp
 unfold atI; rw [e]; exact h
def PlainIx (b:Expr):Prop:=∀ o i,subscripted b false o i=operate [o,i] (getItem o i)
def IxR (X:Cx) (r:R2):Prop :=
 ∀ (value slice:Expr) (pins:List (Addr × Obj)) (s:Shared) (σ:St) (H:Hp) (x y:V) (v u:Value) (Q:VK),Inv X pins σ H s->RelV x v->RelV y u->r x y H Q ->
  subscripted slice false v u=operate [v,u] (getItem v u)->wpAny (model X.prog X.w) X.A (subscriptTail value slice v u) (EP X pins σ Q) X.xe s
def MtR (X:Cx) (id:String) (r:V->List V->Hp->VK->Prop):Prop :=
 ∀ (pins:List (Addr × Obj)) (s:Shared) (σ:St) (H:Hp) (x:V) (xs:List V) (v:Value) (us:List Value) (Q:VK),Inv X pins σ H s->RelV x v->Vals xs us->r x xs H Q ->
  wpAny (model X.prog X.w) X.A (call (.builtin id) (v :: us)) (EP X pins σ Q) X.xe s
section
variable {X:Cx}{a b:Expr}{ta tb:TE}{pos:Pos}
theorem IxR.or {r r':R2} (h:IxR X r) (h':IxR X r'):IxR X (fun x y H Q=>r x y H Q\/r' x y H Q):=by
 intro value slice pins s σ H x y v u Q I rx ry q hs;rcases q with q | q
 ·exact h value slice pins s σ H x y v u Q I rx ry q hs
 ·exact h' value slice pins s σ H x y v u Q I rx ry q hs
theorem vC {r:R2} (hr:IxR X r) (ha:PE X a ta) (hb:PE X b tb) (hs:PlainIx b):PE X (.Subscript a b pos) (tOp r ta tb):=by
 intro pins s σ H Q I h;exact Subscript_ (binT ha hb I h fun v u s2 x y H2 I2 rx ry q=>hr a b pins s2 σ H2 x y v u Q I2 rx ry q (hs _ _))
def rIxL (K:PySem.W.Frag):R2:=fun x y H Q=>∃ p xs i v,x=.ref p/\y=.int i/\SqL K H p xs/\atI xs i=some v/\Q v H
def rIxT (K:PySem.W.Frag):R2:=fun x y H Q=>∃ p xs i v,x=.ref p/\y=.int i/\SqT K H p xs/\atI xs i=some v/\Q v H
theorem vD:IxR X (rIxL X.K):=by
 intro value slice pins s σ H x y v u Q I rx ry h hs;obtain ⟨p,xs,i,z,rfl,rfl,hq,he,q⟩:=h;cases rx;obtain ⟨t,rfl⟩:=ry;obtain ⟨its,r,pl,hz⟩:=I.list hq;obtain ⟨j,h1,h2,h3,h4,h5⟩:=mI he;obtain ⟨w,ew,rw'⟩:=r.get h2;have hl:=r.length;have hn:=line63;have fin:EP X pins σ Q w s:=⟨z,H,I,rw',q⟩
 by_cases h0:0<=i
 ·have hj:i.toNat=j:=by
   rw [seqIndex_of h0 h5] at h1;exact Ca h1
  exact item_listR pl.isList h0 (by omega) (by rw [hj]; simpa using ew) fin hs
 ·have hj:(i + (its.toArray.size:Int)).toNat=j:=by
   rw [seqIndex_neg (by omega) h4] at h1
   rw [BZ,<- hl];exact Ca h1
  exact subscriptTail_builtinR (x:=w) pl.isList.typeIs slot_list_getitem.lookup
   (wpAny_getItem_list_neg (Q:=fun r s'=>r=w/\EP X pins σ Q r s') pl.isList (by omega) (by rw [BZ] <;> omega) (by omega) (by rw [hj]; simpa using ew) ⟨rfl,fin⟩) hs
theorem vE:IxR X (rIxT X.K):=by
 intro value slice pins s σ H x y v u Q I rx ry h hs;obtain ⟨p,xs,i,z,rfl,rfl,hq,he,q⟩:=h;cases rx;obtain ⟨t,rfl⟩:=ry;obtain ⟨its,r,pl,hz⟩:=I.tuple hq;obtain ⟨j,h1,h2,h3,h4,h5⟩:=mI he;obtain ⟨w,ew,rw'⟩:=r.get h2;have hl:=r.length;have hn:=line63;have fin:EP X pins σ Q w s:=⟨z,H,I,rw',q⟩;exact subscriptTail_builtinR (x:=w) pl.typeIs slot_tuple_getitem.lookup
  (getItem_tuple (j:=j) (Q:=fun r s'=>r=w/\EP X pins σ Q r s') pl (by omega) (by omega) (by rw [BZ,<- hl]; exact h1) (by simpa using ew) ⟨rfl,fin⟩) hs
theorem vF (its:List Value) (n j:Nat) (u:Value):Obj.mapSeq (·.setIfInBounds j u) { cls:=.type "list",data:=.seq its.toArray n }={ cls:=.type "list",data:=.seq (its.set j u).toArray n }:=by
 simp [Obj.mapSeq]
theorem Inv.lst (I:Inv X pins σ H s) (h:H p=some (.lst xs)) :
  ∃ (its:List Value) (n:Nat),Vals xs its/\s.heap.get? p=some { cls:=.type "list",data:=.seq its.toArray n }/\xs.length<=sizeLine:=by
 obtain ⟨z,its,n,r,e⟩:=I.hok p _ h;exact ⟨its,n,r,e,z⟩
theorem Inv.lstUpd{ys:List V}{its its':List Value}{n n':Nat}{f:Obj->Obj} (I:Inv X pins σ H s) (h:H p=some (.lst xs))
  (ho:s.heap.get? p=some { cls:=.type "list",data:=.seq its.toArray n }) (hf:f { cls:=.type "list",data:=.seq its.toArray n }={ cls:=.type "list",data:=.seq its'.toArray n' }) (r:Vals ys its') (hz:ys.length<=sizeLine) (t:Nat) :
  Inv X pins σ (upd H p (.lst ys)) { s with heap:=s.heap.update p f,toks:=t }:=by
 have e:(s.heap.update p f).get? p=some { cls:=.type "list",data:=.seq its'.toArray n' }:=by
  rw [Heap.get?_update_self f ho (by rw [hf] <;> rfl),hf]
 refine I.write (x:=p) (e:=p) (by rw [h]; trivial) (.inl rfl) (fun b u hb q=>(Heap.get?_update_other _ _ (B1 hb)).trans q) ⟨_,e⟩ ?_
 exact ⟨hz,its',n',r,e⟩
def rSetL:V->V->V->Hp->(Hp->Prop)->Prop:=fun o i v H Q=>∃ p xs k j,o=.ref p/\i=.int k/\H p=some (.lst xs)/\ixN xs.length k=some j/\Q (upd H p (.lst (xs.set j v)))
theorem vG:PSet X rSetL:=by
 intro pins s σ H o i v ov iv u Q I ro ri rv h;obtain ⟨p,xs,k,j,rfl,rfl,hp,hj,q⟩:=h;cases ro;obtain ⟨t,rfl⟩:=ri;obtain ⟨its,n,r,ho,hz⟩:=I.lst hp;obtain ⟨h1,h2,h3,h4⟩:=mH hj;have hl:=r.length;have hn:=line63;have I':Inv X pins σ (upd H p (.lst (xs.set j v))) { s with heap:=s.heap.update p (Obj.mapSeq (·.setIfInBounds j u)) } :=
  I.lstUpd hp ho (vF its n j u) (r.set rv j) (by rw [List.length_set]; exact hz) s.toks
 by_cases h0:0<=k
 ·have hk:k.toNat=j:=by
   rw [seqIndex_of h0 h4] at h1;exact Ca h1
  exact PySem.W.ki_setAt ho h0 (by omega) (by rw [BZ,<- hl]; exact h4) (by rw [hk]; exact ⟨_,I',q⟩)
 ·have hk:(k + (its.toArray.size:Int)).toNat=j:=by
   rw [seqIndex_neg (by omega) h3] at h1
   rw [BZ,<- hl];exact Ca h1
  exact PySem.W.ki_setBack ho (by omega) (by rw [BZ,<- hl]; exact h3) (by omega) (by rw [hk]; exact ⟨_,I',q⟩)
theorem vH (lo hi:Option Int) (n:Nat):(sliceBounds lo hi none n).1=((HT.sIx n 0 lo:Nat):Int)/\(sliceBounds lo hi none n).2.1=((HT.sIx n n hi:Nat):Int)/\(sliceBounds lo hi none n).2.2=1:=by
 refine ⟨?_,?_,rfl⟩
 ·cases lo with
  | none=>simp [sliceBounds,HT.sIx]
  | some i =>
   simp only [sliceBounds,HT.sIx,Option.getD_none,show (1:Int) > 0 by decide,if_true]
   by_cases h:i < 0
   ·simp only [h,if_true] <;> omega
   ·simp only [h,Cc] <;> omega
 ·cases hi with
  | none=>simp [sliceBounds,HT.sIx]
  | some i =>
   simp only [sliceBounds,HT.sIx,Option.getD_none,show (1:Int) > 0 by decide,if_true]
   by_cases h:i < 0
   ·simp only [h,if_true] <;> omega
   ·simp only [h,Cc] <;> omega
theorem vI (its:List Value) (lo hi:Option Int):slicePick its.toArray lo hi none=((its.drop (HT.sIx its.length 0 lo)).take (HT.sIx its.length its.length hi - HT.sIx its.length 0 lo)).toArray:=by
 obtain ⟨h1,h2,h3⟩:=vH lo hi its.toArray.size;unfold slicePick;rw [h1,h2,h3];simp only [sliceRange_one,pick_run,BZ] <;> rfl
def rSlL (K:PySem.W.Frag):V->Option Int->Option Int->Hp->VK->Prop:=fun x lo hi H Q=>∃ a xs,x=.ref a/\SqL K H a xs/\∀ p,H p=none->Q (.ref p) (upd H p (.lst (cutV xs lo hi)))
theorem vJ:SlR X (rSlL X.K):=by
 intro pins s σ H x v vl vu lo hi sl Q I rx hs pl pu h;obtain ⟨a,xs,rfl,hx,q⟩:=h;cases rx;obtain ⟨its,r,ht,hz⟩:=I.list hx;have hlen:=r.length;refine ⟨"list",_,slot_list_getitem.lookup,ht.isList.typeIs,?_⟩;refine wpAny_getItem_list_slice ht.isList hs pl pu .none (by simp) ?_ (by rw [BZ] <;> omega)
 rw [vI,<- hlen];refine ⟨.ref s.heap.objs.size,_,I.laid (t':=s.toks) (o:=.lst (cutV xs lo hi)) (fun b ob q=>BK _ q) (BI _) ?_,rfl,q _ (I.hok.fresh (BI _))⟩
 exact ⟨B7 (iQ xs lo hi) hz,_,0,(r.drop (HT.sIx xs.length 0 lo)).take (HT.sIx xs.length xs.length hi - HT.sIx xs.length 0 lo),B3 _ rfl⟩
def flatV:V->Bool
 | .non=>true
 | .bl _=>true
 | .int _=>true
 | .str _=>true
 | _=>false
def eqV:V->V->Bool
 | .non,.non=>true
 | .bl a,.bl b=>a == b
 | .bl a,.int b=>(if a then 1 else 0) == b
 | .int a,.bl b=>a == (if b then 1 else 0)
 | .int a,.int b=>a == b
 | .str a,.str b=>a == b
 | _,_=>false
theorem vK (ry:RelV y u) (rx:RelV x v) (fy:flatV y=true) (fx:flatV x=true):SeqAt.EqAt A s u v (eqV y x):=by
 cases y with
 | non =>
  cases ry;cases x with
  | non=>cases rx; exact SeqAt.EqAt.same _
  | bl b=>cases rx; exact SeqAt.EqAt.none_bool b
  | int b=>obtain ⟨t,rfl⟩:=rx; exact SeqAt.EqAt.none_int b t
  | str b=>obtain ⟨t,rfl⟩:=rx; exact SeqAt.EqAt.none_str b t
  | _=>exact absurd (show false=true from fx) B9
 | bl a =>
  cases ry;cases x with
  | non=>cases rx; exact SeqAt.EqAt.bool_none a
  | bl b=>cases rx; exact SeqAt.EqAt.bool_bool a b
  | int b=>obtain ⟨t,rfl⟩:=rx; exact SeqAt.EqAt.bool_int a b t
  | str b=>obtain ⟨t,rfl⟩:=rx; exact SeqAt.EqAt.bool_str a b t
  | _=>exact absurd (show false=true from fx) B9
 | int a =>
  obtain ⟨t',rfl⟩:=ry;cases x with
  | non=>cases rx; exact SeqAt.EqAt.int_none a t'
  | bl b=>cases rx; exact SeqAt.EqAt.int_bool a t' b
  | int b=>obtain ⟨t,rfl⟩:=rx; exact SeqAt.EqAt.int_int a t' b t
  | str b=>obtain ⟨t,rfl⟩:=rx; exact SeqAt.EqAt.int_str a t' b t
  | _=>exact absurd (show false=true from fx) B9
 | str a =>
  obtain ⟨t',rfl⟩:=ry;cases x with
  | non=>cases rx; exact SeqAt.EqAt.str_none a t'
  | bl b=>cases rx; exact SeqAt.EqAt.str_bool a t' b
  | int b=>obtain ⟨t,rfl⟩:=rx; exact SeqAt.EqAt.str_int a t' b t
  | str b=>obtain ⟨t,rfl⟩:=rx; exact SeqAt.EqAt.str_str a t' b t
  | _=>exact absurd (show false=true from fx) B9
 | _=>exact absurd (show false=true from fy) B9
def eqU (x:V) (u:Value):Bool:=match u with
 | .none=>eqV .non x
 | .bool b=>eqV (.bl b) x
 | .int i _=>eqV (.int i) x
 | .str z _=>eqV (.str z) x
 | _=>false
theorem mJ (r:RelV y u) (f:flatV y=true):eqU x u=eqV y x:=by
 cases y with
 | non=>cases r; rfl
 | bl b=>cases r; rfl
 | int i=>obtain ⟨t,rfl⟩:=r; rfl
 | str z=>obtain ⟨t,rfl⟩:=r; rfl
 | _=>exact absurd (show false=true from f) B9
theorem fo:∀ {xs:List V}{us:List Value},Vals xs us->xs.all flatV=true->us.any (eqU x)=xs.any fun y=>eqV y x
 | _,_,.nil,_=>rfl
 | y :: xs,u :: us,.cons r t,f=>by
  rw [List.all_cons,Bool.and_eq_true] at f;rw [List.any_cons,List.any_cons,mJ r f.1,fo t f.2]
theorem fq (rx:RelV x v) (fx:flatV x=true):∀ {xs:List V}{us:List Value},Vals xs us->xs.all flatV=true->∀ u∈us,SeqAt.EqAt A s u v (eqU x u)
 | _,_,.nil,_=>fun u hu=>by cases hu
 | y :: xs,u :: us,.cons r t,f=>fun u' hu=>by
  rw [List.all_cons,Bool.and_eq_true] at f;rcases BV.mp hu with rfl | hu
  ·rw [mJ r f.1]; exact vK r rx f.1 fx
  ·exact fq rx fx t f.2 u' hu
def inV (x:V) (xs:List V):Bool:=xs.any fun y=>eqV y x
def rIn (K:PySem.W.Frag) (neg:Bool):R2:=fun x y H Q=>∃ p xs,y=.ref p/\(SqL K H p xs\/SqT K H p xs)/\flatV x=true/\xs.all flatV=true/\Q (.bl (if neg then !inV x xs else inV x xs)) H
theorem vL:OpR X (compareOp .In) (rIn X.K false):=by
 intro pins s σ H x y v u Q I rx ry h;obtain ⟨p,xs,rfl,hq,fx,fs,q⟩:=h;cases ry;rcases hq with hq | hq
 ·obtain ⟨its,r,pl,hz⟩:=I.list hq
  refine SeqAt.in_listAt (eqU x) pl.isList (fun w hw=>fq rx fx r fs w (by simpa using hw)) ⟨.bl _,H,I,rfl,?_⟩
  rw [show its.toArray.any (eqU x)=its.any (eqU x) by simp,fo r fs]
  exact q
 ·obtain ⟨its,r,pl,hz⟩:=I.tuple hq
  refine SeqAt.in_tupleAt (eqU x) pl (fun w hw=>fq rx fx r fs w (by simpa using hw)) ⟨.bl _,H,I,rfl,?_⟩
  rw [show its.toArray.any (eqU x)=its.any (eqU x) by simp,fo r fs]
  exact q
theorem vM:OpR X (compareOp .NotIn) (rIn X.K true):=by
 intro pins s σ H x y v u Q I rx ry h;obtain ⟨p,xs,rfl,hq,fx,fs,q⟩:=h;cases ry;rcases hq with hq | hq
 ·obtain ⟨its,r,pl,hz⟩:=I.list hq
  refine SeqAt.notIn_listAt (eqU x) pl.isList (fun w hw=>fq rx fx r fs w (by simpa using hw)) ⟨.bl _,H,I,rfl,?_⟩
  rw [show its.toArray.any (eqU x)=its.any (eqU x) by simp,fo r fs]
  exact q
 ·obtain ⟨its,r,pl,hz⟩:=I.tuple hq
  refine SeqAt.notIn_tupleAt (eqU x) pl (fun w hw=>fq rx fx r fs w (by simpa using hw)) ⟨.bl _,H,I,rfl,?_⟩
  rw [show its.toArray.any (eqU x)=its.any (eqU x) by simp,fo r fs]
  exact q
theorem aJ:CallR X (.builtin "len") (fun xs H Q=>∃ p ys,xs=[.ref p]/\(SqL X.K H p ys\/SqT X.K H p ys)/\Q (.int ys.length) H):=by
 intro pins s σ H xs us Q I r h;obtain ⟨p,ys,rfl,hq,q⟩:=h;obtain ⟨u,rfl,rx⟩:=vals1 r;cases rx;have hn:=line63;rcases hq with hq | hq
 ·obtain ⟨its,r',pl,hz⟩:=I.list hq
  have hlen:=r'.length;exact Calls.call_len_list pl.isList (by simp only [BZ] <;> omega) ⟨.int ys.length,H,I.tok _,⟨s.toks + 1,by rw [BZ,hlen]⟩,q⟩
 ·obtain ⟨its,r',pl,hz⟩:=I.tuple hq
  have hlen:=r'.length;exact len_tuple pl (by simp only [BZ] <;> omega) ⟨.int ys.length,H,I.tok _,⟨s.toks + 1,by rw [BZ,hlen]⟩,q⟩
theorem dC:CallR X (.type "list") (fun xs H Q=>∃ p ys,xs=[.ref p]/\(SqL X.K H p ys\/SqT X.K H p ys)/\∀ l,H l=none->Q (.ref l) (upd H l (.lst ys))):=by
 intro pins s σ H xs us Q I r h;obtain ⟨p,ys,rfl,hq,q⟩:=h;obtain ⟨u,rfl,rx⟩:=vals1 r;cases rx;have fin:∀ (its:List Value),Vals ys its->ys.length<=sizeLine->∀ (h':Heap) (c':Nat),(∀ b o',s.heap.get? b=some o'->h'.get? b=some o') ->
   h'.get? s.heap.objs.size=some { cls:=.type "list",dict:=none,data:=.seq its.toArray c',slots:=#[] }->EP X pins σ Q (.ref s.heap.objs.size) { s with heap:=h' }:=fun its r' hz h' c' kp e =>
  ⟨.ref s.heap.objs.size,_,I.laid (t':=s.toks) kp (BI _) (show ObjOk X.prog X.w _ h' _ (.lst ys) from ⟨hz,its,c',r',e⟩),rfl,q _ (I.hok.fresh (BI _))⟩
 rcases hq with hq | hq
 ·obtain ⟨its,r',pl,hz⟩:=I.list hq
  have hlen:=r'.length;obtain ⟨o,ho,hc,n,hd⟩:=pl.isList;exact call_list_seq p (.inl rfl) ho hc hd (fun h' c' kp e=>fin its r' hz h' c' kp e) (by simp only [BZ] <;> omega)
 ·obtain ⟨its,r',pl,hz⟩:=I.tuple hq
  have hlen:=r'.length;obtain ⟨o,ho,hc,n,hd⟩:=pl;exact call_list_seq p (.inr rfl) ho hc hd (fun h' c' kp e=>fin its r' hz h' c' kp e) (by simp only [BZ] <;> omega)
theorem cQ:CallR X (.type "tuple") (fun xs H Q=>∃ p ys,xs=[.ref p]/\((SqL X.K H p ys/\∀ l,H l=none->Q (.ref l) (upd H l (.tup ys)))\/(SqT X.K H p ys/\Q (.ref p) H))):=by
 intro pins s σ H xs us Q I r h;obtain ⟨p,ys,rfl,h⟩:=h;obtain ⟨u,rfl,rx⟩:=vals1 r;cases rx;rcases h with ⟨hq,q⟩ | ⟨hq,q⟩
 ·obtain ⟨its,r',pl,hz⟩:=I.list hq
  have hlen:=r'.length;refine call_tuple_list pl.isList (fun h' kp=>?_) (by simp only [BZ] <;> omega)
  have I1:Inv X pins σ H { s with heap:=h' }:=I.kept (t':=s.toks) kp
  have I2:Inv X pins σ (upd H h'.objs.size (.tup ys)) { s with heap:=h'.push { cls:=.type "tuple",data:=.seq its.toArray } } :=
   I1.laid (t':=s.toks) (fun b o e=>BK _ e) (BI _) (show ObjOk X.prog X.w _ _ _ (.tup ys) from ⟨hz,its,r',IsTup.new _ _⟩)
  exact ⟨.ref h'.objs.size,_,I2,rfl,q _ (I1.hok.fresh (BI _))⟩
 ·obtain ⟨its,r',pl,hz⟩:=I.tuple hq
  exact call_tuple_same pl ⟨.ref p,H,I,rfl,q⟩
def tyV (K:PySem.W.Frag) (T:String) (x:V) (H:Hp):Prop:=match x with
 | .str _=>T = "str"
 | .int _=>T = "int"
 | .ref p=>(T = "list" /\ ∃ xs,SqL K H p xs)\/(T = "tuple" /\ ∃ o,K.lookup p=some o/\o.cls=.type "tuple" /\ o.dict=none) \/
   (T = "dict" /\ ((∃ kvs,H p=some (.dK kvs))\/∃ kvs,H p=some (.dT kvs)))\/(T = "set" /\ ∃ S n,H p=some (.set S n))
 | _=>False
theorem mK{T:String} (I:Inv X pins σ H s) (r:RelV x v) (ty:tyV X.K T x H) :
  s.TypeIs v T/\∀ a,v=.ref a->∃ ob,s.heap.get? a=some ob/\ob.dict=none:=by
 cases x with
 | str z =>
  obtain ⟨t,rfl⟩:=r;cases (show T = "str" from ty);exact ⟨typeIs_str s z t,fun _ e=>nomatch e⟩
 | int i =>
  obtain ⟨t,rfl⟩:=r;cases (show T = "int" from ty);exact ⟨typeIs_int s i t,fun _ e=>nomatch e⟩
 | ref p =>
  cases r;rcases ty with ⟨rfl,xs,hq⟩ | ⟨rfl,o,hk,hc,hd⟩ | ⟨rfl,hk⟩ | ⟨rfl,S,n,hk⟩
  ·obtain ⟨its,_,pl,_⟩:=I.list hq
   refine ⟨pl.isList.typeIs,fun a e=>?_⟩
   cases e;obtain ⟨o,n,e,c,hd,_⟩:=pl;exact ⟨o,e,hd⟩
  ·refine ⟨⟨o,I.kIn p o hk,hc⟩,fun a e=>?_⟩
   cases e;exact ⟨o,I.kIn _ o hk,hd⟩
  ·have z:∃ o,s.heap.get? p=some o/\o.ExactDict:=by
    rcases hk with ⟨kvs,hk⟩ | ⟨kvs,hk⟩
    ·obtain ⟨_,_,_,_,o,_,_,e,ex,_⟩:=I.hok p _ hk
     exact ⟨o,e,ex⟩
    ·obtain ⟨_,_,_,_,o,_,_,e,ex,_⟩:=I.hok p _ hk
     exact ⟨o,e,ex⟩
   obtain ⟨o,e,ex⟩:=z;refine ⟨⟨o,e,ex.1⟩,fun a e2=>?_⟩
   cases e2;exact ⟨o,e,ex.2.1⟩
  ·obtain ⟨o,_,_,_,e,ex,_⟩:=I.hok p _ hk
   refine ⟨⟨o,e,ex.1⟩,fun a e2=>?_⟩
   cases e2;exact ⟨o,e,ex.2.1⟩
 | _=>exact False.elim ty
def tBM0 (K:PySem.W.Frag) (T:String) (r:V->List V->Hp->VK->Prop) (to:TE):TE:=fun σ H Q=>to σ H fun x H1=>tyV K T x H1/\r x [] H1 Q
def tBM (K:PySem.W.Frag) (T:String) (r:V->List V->Hp->VK->Prop) (to:TE) (t:TA):TE:=fun σ H Q=>to σ H fun x H1=>tyV K T x H1/\t σ H1 fun xs H2=>r x xs H2 Q
variable {o e:Expr}{es:List Expr}{to:TE}{t:TA}{name:Str}{apos cpos:Pos}{T id:String}{r:V->List V->Hp->VK->Prop}
theorem mL (pa:PlainAttrs T) (slot:Slot T name id) (hty:typeOf (.builtin id)=pure (.type "method_descriptor")) (hm:MtR X id r) (ho:PE X o to)
  (hbase:attributeBase o name X.env (eval o X.env)=eval o X.env:=by rfl) (hline:(apos.endLine == cpos.line)=true:=by rfl):PE X (.Call (.Attribute o name apos) [] [] cpos) (tBM0 X.K T r to):=by
 intro pins s σ H Q I h;refine wpAny_Call_method0_late hbase hline (thn (ho pins s σ H _ I h) fun v s1 ⟨x,H1,I1,r1,ty,q1⟩=>?_)
 obtain ⟨h1,h2⟩:=mK I1 r1 ty;exact ⟨T,id,pa,slot,hty,h1,h2,Calls.callWith_builtin rfl (PySem.evalArgs_none (hm pins s1 σ H1 x [] v [] Q I1 r1 .nil q1))⟩
theorem vN (pa:PlainAttrs T) (slot:Slot T name id) (hty:typeOf (.builtin id)=pure (.type "method_descriptor")) (hm:MtR X id r) (ho:PE X o to) (ha:PA X (e :: es) t)
  (hbase:attributeBase o name X.env (eval o X.env)=eval o X.env:=by rfl)
  (hfew:((backTo cpos (starEach (e :: es) X.env)).all (fun x=>!x.1) && (backToKw cpos (keywordEach [] X.env)).all (fun x=>x.1.isSome)
   && decide ((e :: es).length + ([]:List Keyword).length + (if ([]:List Keyword).isEmpty then 0 else 1) < 30))=true:=by rfl)
  (hline:(apos.endLine == cpos.line)=true:=by rfl) (hs:starEach (e :: es) X.env=(false,eval e X.env) :: starEach es X.env:=by rfl) (hplain:(backTo cpos (starEach es X.env)).any (·.1)=false:=by rfl) :
  PE X (.Call (.Attribute o name apos) (e :: es) [] cpos) (tBM X.K T r to t):=by
 intro pins s σ H Q I h;refine wpAny_Call_method_late hbase hfew hline rfl (thn (ho pins s σ H _ I h) fun v s1 ⟨x,H1,I1,r1,ty,q1⟩=>?_)
 obtain ⟨h1,h2⟩:=mK I1 r1 ty;refine ⟨T,id,pa,slot,hty,h1,h2,?_⟩;have hA:=ha cpos pins s1 σ H1 _ I1 q1;rw [hs] at hA ⊢;refine Calls.callWith_builtin (by show (false || (backTo cpos (starEach es X.env)).any (·.1))=false; rw [hplain] <;> rfl) (Calls.evalArgs_plain ?_)
 exact thn hA fun us s2 ⟨vs,H2,I2,r2,q2⟩=>hm pins s2 σ H2 x vs v us Q I2 r1 r2 q2
end
def MtM (X:Cx) (id:String) (r:V->List V->Hp->VK->Prop):Prop :=
 ∀ (pins:List (Addr × Obj)) (s:Shared) (σ:St) (H:Hp) (x:V) (xs:List V) (v:Value) (us:List Value) (Q:VK),Inv X pins σ H s->RelV x v->Vals xs us->r x xs H Q ->
  wpAny (model X.prog X.w) X.A (call (.builtin id) (v :: us)) (EP X pins σ Q) X.xe s
theorem Vals.one:∀ {x:V}{us:List Value},Vals [x] us->∃ u,us=[u]/\RelV x u
 | _,_,.cons r .nil=>⟨_,rfl,r⟩
theorem Vals.zero:∀ {us:List Value},Vals [] us->us=[]
 | _,.nil=>rfl
theorem Vals.dropLast (h:Vals xs us):Vals xs.dropLast us.dropLast:=by
 induction h with
 | nil=>exact .nil
 | cons r t ih =>
  cases t with
  | nil=>exact .nil
  | cons q t'=>exact .cons r ih
theorem Vals.rep (h:Vals xs us):∀ k:Nat,Vals (List.replicate k xs).flatten (List.replicate k us).flatten
 | 0=>.nil
 | k + 1=>by
  rw [Dx,Dx,List.flatten_cons,List.flatten_cons];exact Vals.append h (Vals.rep h k)
theorem vO {α:Type} (l:List α):l.eraseIdx (l.length - 1)=l.dropLast:=by
 induction l with
 | nil=>rfl
 | cons a r ih =>
  cases r with
  | nil=>rfl
  | cons b r =>
   have e:(a :: b :: r).length - 1=((b :: r).length - 1) + 1:=by
    have h1:(a :: b :: r).length=r.length + 2:=rfl;have h2:(b :: r).length=r.length + 1:=rfl;omega
   rw [e,List.eraseIdx_cons_succ,ih]
   all_goals rfl
theorem mM (its:List Value):∀ (k:Nat) (acc:List Value),
  List.foldl (fun x1 x2=>x1++x2) acc.toArray (List.replicate k its.toArray)=(acc++(List.replicate k its).flatten).toArray
 | 0,acc=>by simp
 | k + 1,acc=>by
  have e:acc.toArray++its.toArray=(acc++its).toArray:=by simp
  have e2:(acc++its)++(List.replicate k its).flatten=acc++(List.replicate (k + 1) its).flatten:=by
   rw [Dx,List.flatten_cons,C6]
  rw [<- e2,<- mM its k (acc++its),<- e,Dx,List.foldl_cons]
section
variable {X:Cx}{pins:List (Addr × Obj)}{σ:St}{H:Hp}{s:Shared}{l b:Addr}{xs ys zs:List V}
theorem Inv.lset {its its':List Value}{n:Nat}{f:Array Value->Array Value}{t':Nat} (I:Inv X pins σ H s) (hH:H l=some (.lst xs))
  (e:s.heap.get? l=some { cls:=.type "list",data:=.seq its.toArray n }) (hf:f its.toArray=its'.toArray) (hv:Vals ys its') (hz:ys.length<=sizeLine) :
  Inv X pins σ (upd H l (.lst ys)) { s with heap:=s.heap.update l (Obj.mapSeq f),toks:=t' }:=by
 have q:=PySem.IsL.update e f;rw [hf] at q;refine I.write (x:=l) (e:=l) (by rw [hH]; exact trivial) (.inl rfl) (fun b' u hb hu=>(Heap.get?_update_other s.heap (Obj.mapSeq f) (B1 hb)).trans hu) ⟨_,q⟩ ?_
 exact ⟨hz,its',_,hv,q⟩
theorem Inv.lnew{t':Nat} (I:Inv X pins σ H s) (hv:Vals ys its) (hz:ys.length<=sizeLine) :
  Inv X pins σ (upd H s.heap.objs.size (.lst ys)) { s with heap:=s.heap.push { cls:=.type "list",data:=.seq its.toArray },toks:=t' } :=
 I.laid (fun _ _ q=>BK _ q) (BI _) ⟨hz,its,0,hv,B3 _ rfl⟩
theorem Inv.fresh (I:Inv X pins σ H s):H s.heap.objs.size=none:=I.hok.fresh (BI _)
theorem Inv.lstM (I:Inv X pins σ H s) (hH:H l=some (.lst xs)):xs.length<=sizeLine/\∃ (its:List Value) (n:Nat),Vals xs its/\xs.length=its.length/\s.heap.get? l=some { cls:=.type "list",data:=.seq its.toArray n }:=by
 obtain ⟨z,its,n,r,e⟩:=I.hok l _ hH;exact ⟨z,its,n,r,r.length,e⟩
theorem notLongL (h:n<=sizeLine):Builtin.List.listTooLong n=false:=by
 unfold Builtin.List.listTooLong;exact Cv (by omega)
end
section
variable {X:Cx}
def rAppend:V->List V->Hp->VK->Prop:=fun x vs H Q=>∃ l xs y,x=.ref l/\vs=[y]/\H l=some (.lst xs)/\xs.length < sizeLine/\Q .non (upd H l (.lst (xs++[y])))
theorem cy:MtM X "list.append" rAppend:=by
 intro pins s σ H x vs v us Q I rx rv h;obtain ⟨l,xs,y,rfl,rfl,hH,hz,q⟩:=h;cases rx;obtain ⟨u,rfl,ru⟩:=rv.one;obtain ⟨z,its,n,r,hl,e⟩:=I.lstM hH;refine call_meets F.slot_list_append ⟨_,e,rfl⟩ F.entry_list_append (F.args_list_append_2 _ _) (PySem.list_append l its.toArray n u (by rw [BZ]; omega)) ⟨e,?_⟩
 refine ⟨.non,_,I.lset (its':=its++[u]) hH e (by simp) (r.append (.cons ru .nil)) ?_,rfl,q⟩
 rw [BU,Cn];omega
def rExtend:V->List V->Hp->VK->Prop:=fun x vs H Q=>∃ l b xs zs,x=.ref l/\vs=[.ref b]/\H l=some (.lst xs)/\H b=some (.lst zs)/\xs.length + zs.length<=sizeLine/\Q .non (upd H l (.lst (xs++zs)))
theorem iR:MtM X "list.extend" rExtend:=by
 intro pins s σ H x vs v us Q I rx rv h;obtain ⟨l,b,xs,zs,rfl,rfl,hH,hB,hz,q⟩:=h;cases rx;obtain ⟨u,rfl,ru⟩:=rv.one;cases ru;obtain ⟨z,its,n,r,hl,e⟩:=I.lstM hH;obtain ⟨z2,its2,n2,r2,hl2,e2⟩:=I.lstM hB;have hsz:its.toArray.size + its2.toArray.size<=sizeLine:=by rw [BZ,BZ]; omega
 have hlong:¬ (!its.toArray.isEmpty && Builtin.List.listTooLong (its.toArray.size + its2.toArray.size))=true:=by
  rw [notLongL hsz,Bool.and_false];exact B9
 refine call_meets F.slot_list_extend ⟨_,e,rfl⟩ F.entry_list_extend (F.args_list_extend_2 _ _)
  (AutoSeq1.list_extend_list_list_0 l its.toArray n b its2.toArray n2 hlong (by rw [BZ]; omega) (by omega)) ⟨e,e2,?_⟩
 refine ⟨.non,_,I.lset (its':=its++its2) hH e (by simp) (r.append r2) ?_,rfl,q⟩
 rw [BU];omega
def rPop:V->List V->Hp->VK->Prop:=fun x vs H Q=>∃ l xs y,x=.ref l/\vs=[]/\H l=some (.lst xs)/\xs[xs.length - 1]?=some y/\Q y (upd H l (.lst xs.dropLast))
theorem vP:MtM X "list.pop" rPop:=by
 intro pins s σ H x vs v us Q I rx rv h;obtain ⟨l,xs,y,rfl,rfl,hH,hy,q⟩:=h;cases rx;have hus:=rv.zero;subst hus;obtain ⟨z,its,n,r,hl,e⟩:=I.lstM hH;obtain ⟨u,hu,ru⟩:=r.get hy;have hy':its.toArray[its.toArray.size - 1]?=some u:=by
  show its.toArray[its.length - 1]?=some u;rw [<- Array.getElem?_toList,<- hl];exact hu
 refine call_meets F.slot_list_pop ⟨_,e,rfl⟩ F.entry_list_pop (F.args_list_pop_1 _) (MeetsSeq.list_pop_last l its.toArray n u hy' (by rw [BZ]; omega)) ⟨e,?_⟩
 refine ⟨y,_,I.lset (its':=its.dropLast) hH e ?_ r.dropLast ?_,ru,q⟩
 ·show its.toArray.eraseIdxIfInBounds (its.toArray.size - 1)=its.dropLast.toArray
  rw [BZ,List.eraseIdxIfInBounds_toArray,vO]
 ·rw [List.length_dropLast]
  omega
def rCat:R2:=fun x y H Q=>∃ l b xs zs,x=.ref l/\y=.ref b/\H l=some (.lst xs)/\H b=some (.lst zs)/\xs.length + zs.length<=sizeLine/\∀ p,H p=none->Q (.ref p) (upd H p (.lst (xs++zs)))
theorem iS:OpR X (binaryOp .Add) rCat:=by
 intro pins s σ H x y v u Q I rx ry h;obtain ⟨l,b,xs,zs,rfl,rfl,hH,hB,hz,q⟩:=h;cases rx;cases ry;obtain ⟨z,its,n,r,hl,e⟩:=I.lstM hH;obtain ⟨z2,its2,n2,r2,hl2,e2⟩:=I.lstM hB;refine PySem.P.add_list e e2 ?_ (by rw [BZ,BZ]; omega)
 have ea:its.toArray++its2.toArray=(its++its2).toArray:=by simp
 rw [ea];exact ⟨.ref _,_,I.lnew (t':=s.toks) (r.append r2) (by rw [BU]; omega),rfl,q _ I.fresh⟩
def rRep:R2:=fun x y H Q=>∃ l k xs,x=.ref l/\y=.int k/\H l=some (.lst xs)/\-(2 ^ 63)<=k/\k < 2 ^ 63/\xs.length * k.toNat<=sizeLine /\
 ∀ p,H p=none->Q (.ref p) (upd H p (.lst (List.replicate k.toNat xs).flatten))
theorem vQ {α:Type} (xs:List α) (k:Nat):(List.replicate k xs).flatten.length=k * xs.length:=by
 induction k with
 | zero=>simp
 | succ k ih=>rw [Dx,List.flatten_cons,BU,ih,Nat.succ_mul,Nat.add_comm]
theorem vR:OpR X (binaryOp .Mult) rRep:=by
 intro pins s σ H x y v u Q I rx ry h;obtain ⟨l,k,xs,rfl,rfl,hH,h1,h2,hz,q⟩:=h;cases rx;obtain ⟨t,rfl⟩:=ry;obtain ⟨z,its,n,r,hl,e⟩:=I.lstM hH;have hlen:its.toArray.size * k.toNat<=sizeLine:=by rw [BZ,<- hl]; exact hz
 have hcap:¬ its.toArray.size * k.toNat > (2 ^ 63 - 1) / 8:=by
  have:(sizeLine:Nat)<=(2 ^ 63 - 1) / 8:=by decide
  omega
 have hfit:¬ (!Builtin.List.listFitsIndex k)=true:=by
  rw [fitsIndex_both h1 h2];exact B9
 have hlong:¬ Builtin.List.listTooLong (its.toArray.size * k.toNat)=true:=by
  rw [notLongL hlen];exact B9
 have hnew:List.foldl (fun x1 x2=>x1++x2) #[] (List.replicate (if its.toArray.isEmpty=true then 0 else k.toNat) its.toArray)=(List.replicate k.toNat its).flatten.toArray:=by
  have f0:∀ m:Nat,List.foldl (fun x1 x2=>x1++x2) #[] (List.replicate m its.toArray)=(List.replicate m its).flatten.toArray:=fun m=>by
   have:=mM its m [];rw [List.nil_append] at this;exact this
  rw [f0];cases its with
  | nil=>simp
  | cons a r'=>rw [if_neg (by simp)]
 refine wpAny_binaryOp_repeat_ref (T := "list") (U := "int") (by decide) ⟨_,e,rfl⟩ (fun s'=>typeIs_int s' k t) noFill_list_mul F.fills_int_mul F.slot_int_rmul repeat_list F.slot_int_index.lookup
  (call_meets F.slot_int_rmul (typeIs_int s k t) F.entry_int_rmul (F.args_int_rmul_2 _ _) (int___rmul___int_list k t l its.toArray n)
   ⟨e,rfl,⟨_,e,rfl⟩,call_meets F.slot_list_mul ⟨_,e,rfl⟩ F.entry_list_mul (F.args_list_mul_2 _ _) (AutoListH.list___mul___list_int_3 l its.toArray n k t hfit hcap hlong) ⟨e,?_⟩⟩)
 rw [hnew];exact ⟨.ref _,_,I.lnew (t':=s.toks) (r.rep k.toNat) (by rw [vQ,Nat.mul_comm]; exact hz),rfl,q _ I.fresh⟩
end
end L2
namespace Att
open PySem PySem.W PySem.Calls PyProof.Rows
theorem vS {P:Params}{h:Heap}:∀ (ns:List Int) (vs:List Value),WellAll P h vs (ns.map WData.int)->IntsAre vs ns:=by
 intro ns
 induction ns with
 | nil =>
  intro vs w;rw [List.map_nil] at w;cases w;exact .nil
 | cons n ns ih =>
  intro vs w;rw [B4] at w;cases w with
  | cons a b =>
   cases a;exact .cons _ _ (ih _ b)
theorem vT {l:OpenLaw}{n:Nat} (hn:l.most=some n) {P:Params}{h:Heap}{args:List WData}{vals:List Value}
  (hpre:l.row.toRowW.claim.pre args=true) (hwl:WellAll P h vals args) :
  ∃ a vs ns,vals=[Value.ref a]/\args=[WData.list (ns.map WData.int)]/\h.get? a=some { cls:=.type "list",data:=.seq vs.toArray }/\IntsAre vs ns/\ns.length<=n:=by
 have hsh:WShape.hasAll [] args [.list .int]=true:=(pre_splitW hpre).1;have hc:l.pre.holds [] { args:=args }=true:=(pre_splitW hpre).2;obtain ⟨d,r,rfl,h1,h2⟩:=hasAllW_cons hsh;obtain rfl:=hasAllW_nil h2;obtain ⟨xs,rfl,h3⟩:=hasW_list h1;obtain ⟨ns,rfl⟩:=items_int h3;have hlen:ns.length<=n:=by
  unfold OpenLaw.pre at hc;have h4:(WTm.not (.lt (.lit (.int (n:Int))) (.len (.arg 0)))).holds [] { args:=[.list (ns.map .int)] }=true:=by
   have h4:=(holds_andW hc).1;rw [hn] at h4;exact h4
  have h5:=condW_of h4 (w_not (w_lt w_lit (w_len_list (w_arg rfl))));rw [BF] at h5;refine Nat.le_of_not_lt fun q=>?_
  have q':(n:Int) < ((ns.length:Nat):Int):=by omega
  first
   | (rw [Co q'] at h5; exact absurd h5 (by decide))
   | (simp at h5; omega)
 cases hwl with
 | cons w1 w2 =>
  cases w2;cases w1 with
  | list ho hall=>exact ⟨_,_,ns,rfl,rfl,ho,vS ns _ hall,hlen⟩
theorem vU (l:OpenLaw) (args:List WData):l.row.toRowW.claim.post args (.bool true) args=true :=
 postW_of (r:=l.row.toRowW) (X:=(true == true))
  (show WShape.has [] (.bool true) .bool=true by first | rfl | decide | simp [WShape.has,WShape.arms,WShape.armsAll])
  (show (WTm.eq .res (.lit (.bool true))).value [] { args:=args,res:=some (.bool true),after:=args }=some (.bool (true == true)) from w_eq_bool (w_res rfl) w_lit) rfl
theorem attach_call {l:OpenLaw}{n:Nat}{q:Program}{loose:List Str}{XP:(Str->Option Value)->Heap->Prop}{YP:World->Heap->Prop}{d:DefRec}
  (hn:l.most=some n) (hdf:d.params.defaults=[])
  (call:∀ (w:World) (s₀ s₁:Shared) (mg mb:Str->Option Value) (fa:Addr) (o:Obj) (pm cd doc:Value) (a:Addr) (vs:List Value) (ns:List Int),
   Ground q loose [] XP w s₀ mg mb s₁.heap->YP w s₁.heap ->
   s₁.heap.get? fa=some o->o.data=.func (docDef d.name d.params d.body d.scope pm cd doc)->s₁.heap.CodeRec cd d.name->mg d.name=some (.ref fa) ->
   s₁.heap.get? a=some { cls:=.type "list",data:=.seq vs.toArray }->IntsAre vs ns->ns.length<=n->s₁.gens=#[] ->
   codeAny (model l.prog w) callerA (.call (.ref fa) ⟨[.ref a],[]⟩) (fun r s'=>r=.ok (.ret (.bool true))/\OldK s₁.heap s'.heap/\s'.os=s₁.os/\AllBare s'.gens) s₁) :
  WalkO q loose XP YP l.row.toRowW d [] (fun f vs=>PySem.call f vs):=by
 intro w s₀ s₁ mg mb G Y fa o pm cd doc dV kV ho hd hcd hD hmg hg args vals as hpre hlay hrd hwl hlo;obtain rfl:dV=.none:=Dflts.none hD hdf;obtain rfl:kV=.none:=Dflts.noKw hD;obtain ⟨a,vs,ns,rfl,rfl,hobj,hints,hlen⟩:=vT hn hpre hwl;refine enter_call (codeAny_mono (call w s₀ s₁ mg mb fa o pm cd doc a vs ns G Y ho (fd_plain hd) hcd hmg hobj hints hlen hg) fun r s' hq=>?_)
 obtain ⟨rfl,h2,h3,h4⟩:=hq;exact ⟨.inl ⟨.bool true,.bool true,[],rfl,fun _=>rfl,.bool true,vU l _,fun _=>⟨List.Pairwise.nil,fun _ hm=>(nomatch hm)⟩⟩,h2,h3,h4⟩
end Att
namespace L2
open PySem PySem.Spec PyProof.Rows
theorem mN:∀ {vs:List Value}{ns:List Int},IntsAre vs ns->Vals (ns.map V.int) vs
 | _,_,.nil=>.nil
 | _,_,.cons n t h=>.cons ⟨t,rfl⟩ (mN h)
def Only (H:Hp):Prop:=∀ b,H b=none\/∃ o xs,H b=some (.frz o (.lst xs))
theorem vV {P:Program}{w:World}{K:PySem.W.Frag}{mg mb:Str->Option Value}{CX:CXT}{k:Nat}{fa a:Addr}{fd:FuncData}{x:Str}{sp:Sp}{s₁:Shared}{vs:List Value}{ns:List Int}
  (KX:K.In s₁.heap) (hns:s₁.heap.Ns mainGlobals mg) (hb:s₁.heap.Ns builtinsNs mb) (hbb:∀ x:Str,x ≠ "__name__" -> mb x=bootBuiltins x) (hlim:s₁.heap.NoLimit) (hg:s₁.gens=#[])
  (ha:s₁.heap.get? a=some { cls:=.type "list",data:=.seq vs.toArray }) (hi:IntsAre vs ns) (hl:ns.length<=sizeLine) (hr:Room k callerA)
  (F:∀ base:Heap,K.In base->base.Ns mainGlobals mg->FnOk P w K mg base CX k fa fd [x] sp) (hbind:∀ (s:Shared) (u:Value),BindsTo s fd ⟨[u],[]⟩ [(x,u)])
  (hsp:∀ H:Hp,Only H->SqL K H a (ns.map V.int)->sp [.ref a] H (fun v _=>v=.bl true) fun _ _ _=>False)
  (hCX:∀ H e s',CX [] H s₁ (fun _ _ _=>False) e s'->False) :
  codeAny (model P w) callerA (.call (.ref fa) ⟨[.ref a],[]⟩) (fun r s'=>r=.ok (.ret (.bool true))/\OldK s₁.heap s'.heap/\s'.os=s₁.os/\AllBare s'.gens) s₁:=by
 have rv:=mN hi;have lenV:=hi.length;have core:∀ H:Hp,Only H->SqL K H a (ns.map V.int)->HOk P w H s₁.heap->(∀ b,H b≠none->b=a)->(H a≠none->K.lookup a=none) ->
   codeAny (model P w) callerA (.call (.ref fa) ⟨[.ref a],[]⟩) (fun r s'=>r=.ok (.ret (.bool true))/\OldK s₁.heap s'.heap/\s'.os=s₁.os/\AllBare s'.gens) s₁:=by
  intro H hO hS hok hA hK;have base_of:∀ {b:Addr}{o:Obj},s₁.heap.get? b=some o->H b=none->(hidT s₁.heap H).get? b=some o:=fun e n=>tE e n
  have noA:∀ {b:Addr}{o:Obj}{es:Array DictEntry}{ep:Nat},s₁.heap.get? b=some o->o.data=.dict es ep->H b=none:=fun {b o es ep} e d=>by
   cases q:H b with
   | none=>rfl
   | some u =>
    have e':b=a:=hA b (by rw [q]; simp)
    subst e';rw [ha] at e; cases e;have d':Data.seq vs.toArray _=Data.dict es ep:=d;cases d'
  have nsK:∀ {b:Addr}{m:Str->Option Value},s₁.heap.Ns b m->(hidT s₁.heap H).Ns b m:=fun {b m} ⟨o,es,ep,e,d,r⟩=>⟨o,es,ep,base_of e (noA e d),d,r⟩
  have hKb:K.In (hidT s₁.heap H):=fun b o e=>base_of (KX b o e) (by
   cases q:H b with
   | none=>rfl
   | some u =>
    have e':b=a:=hA b (by rw [q]; simp)
    subst e';rw [hK (by rw [q]; simp)] at e; cases e)
  have hM:Mod K mg (hidT s₁.heap H):=⟨hKb,nsK hns,⟨mb,nsK hb,hbb⟩,let ⟨mc,h1,h2⟩:=hlim; ⟨mc,nsK h1,h2⟩⟩;have e0:Env0 P w K mg (hidT s₁.heap H) callerA [] s₁ H:=⟨rfl,hM,fun b o e=>tF e,Nat.le_of_eq (tD _ _),trivial,fun b hb=>absurd (show b∈([]:List Addr) from hb) (by simp),hok,.of_eq hg⟩
  refine codeAny_mono ((F _ hKb (nsK hns)).run callerA [] s₁ H ⟨[.ref a],[]⟩ [.ref a] [.ref a] _ _ hr e0 (hbind s₁ (.ref a)) (.cons rfl .nil) (hsp H hO hS)) fun r s' h=>?_
  cases r with
  | error e=>exact (hCX H e s' h).elim
  | ok fl =>
   cases fl with
   | next=>exact False.elim h
   | brk=>exact False.elim h
   | cont=>exact False.elim h
   | ret u =>
    obtain ⟨v,H',os,bare,un,hok',r',q⟩:=h;have q':v=.bl true:=q;subst q';obtain rfl:u=Value.bool true:=r';refine ⟨rfl,OldK.of_keep fun b o e=>?_,os,bare⟩
    cases q:H b with
    | none=>exact un.keep b o e q (by intro z; exact absurd (show b∈([]:List Addr) from z) (by simp)) (by simp)
    | some u =>
     rcases hO b with z | ⟨ob,xs,z⟩
     ·rw [q] at z; cases z
     ·have z2:=un.frzs b ob _ z
      obtain ⟨e1,_⟩:=hok b _ z;obtain ⟨e2,_⟩:=hok' b _ z2;rw [e] at e1; cases e1;exact e2
 cases hk:K.lookup a with
 | some o =>
  have e:=KX a o hk;rw [ha] at e;cases e;refine core (fun _=>none) (fun _=>.inl rfl) (.inr ⟨_,vs.toArray,_,hk,rfl,rfl,rfl,by rw [BZ,lenV]; exact hl,by simpa using rv⟩) (fun b u z=>by have z':(none:Option HO)=some u:=z; cases z') (fun b z=>absurd rfl z) fun z=>absurd rfl z
 | none =>
  refine core (fun b=>if b=a then some (.frz { cls:=.type "list",data:=.seq vs.toArray } (.lst (ns.map V.int))) else none) (fun b=>?_) (.inl (.inr ⟨{ cls:=.type "list",data:=.seq vs.toArray },if_pos rfl⟩)) (fun b u z=>?_) (fun b z=>?_) fun _=>hk
  ·by_cases hb:b=a
   ·exact .inr ⟨_,_,if_pos hb⟩
   ·exact .inl (if_neg hb)
  ·by_cases hb:b=a
   ·have z':=(if_pos hb).symm.trans z
    cases z';subst hb;exact ⟨ha,by rw [BF]; exact hl,vs,_,rv,ha⟩
   ·have z':=(if_neg hb).symm.trans z
    cases z'
  ·by_cases hb:b=a
   ·exact hb
   ·exact absurd (if_neg hb) z
theorem vW {l:PySem.W.OpenLaw}{n k:Nat}{q:Program}{loose:List Str}{XP:(Str->Option Value)->Heap->Prop}{YP:World->Heap->Prop}{d:DefRec}{K:Params->PySem.W.Frag}{CX:World->CXT}{sp:World->Sp}{x:Str}
  (hn:l.most=some n) (hn2:n<=sizeLine) (hdf:d.params.defaults=[]) (hr:Room k callerA)
  (hY:∀ (w:World) (h:Heap),YP w h->(K w.params).In h)
  (F:∀ (w:World) (mg:Str->Option Value) (fa:Addr) (h:Heap),(K w.params).In h->h.Ns mainGlobals mg->mg d.name=some (.ref fa) ->
   ∃ fd:FuncData,(∀ (s:Shared) (u:Value),BindsTo s fd ⟨[u],[]⟩ [(x,u)]) /\
    ∀ base:Heap,(K w.params).In base->base.Ns mainGlobals mg->FnOk l.prog w (K w.params) mg base (CX w) k fa fd [x] (sp w))
  (hsp:∀ (w:World) (H:Hp) (a:Addr) (ns:List Int),ns.length<=n->Only H->SqL (K w.params) H a (ns.map V.int)->sp w [.ref a] H (fun v _=>v=.bl true) fun _ _ _=>False)
  (hCX:∀ (w:World) (H:Hp) (s:Shared) (e:Value) (s':Shared),CX w [] H s (fun _ _ _=>False) e s'->False) :
  PySem.W.WalkO q loose XP YP l.row.toRowW d [] (fun f vs=>PySem.call f vs):=by
 refine Att.attach_call hn hdf fun w s₀ s₁ mg mb fa o pm cd doc a vs ns G Y ho hd hcd hmg hobj hints hlen hg=>?_
 have KX:=hY w _ Y;obtain ⟨fd,hb,hF⟩:=F w mg fa _ KX G.T.g hmg;exact vV KX G.T.g G.T.b G.T.builtins G.T.nolimit hg hobj hints (B7 hlen hn2) hr hF hb (fun H hO hS=>hsp w H a ns hlen hO hS) fun H e s'=>hCX w H s₁ e s'
theorem vX {l:PySem.W.OpenLaw}{n k:Nat}{q:Program}{loose:List Str}{XP:(Str->Option Value)->Heap->Prop}{YP:World->Heap->Prop}{d:DefRec}{K:Params->PySem.W.Frag}{CX:CXT}{sp:PySem.W.Frag->Sp}{x:Str}
  (hn:l.most=some n) (hn2:n<=sizeLine) (hdf:d.params.defaults=[]) (hr:Room k callerA)
  (hY:∀ (w:World) (h:Heap),YP w h->(K w.params).In h)
  (F:∀ (w:World) (mg:Str->Option Value) (fa:Addr) (h:Heap),(K w.params).In h->h.Ns mainGlobals mg->mg d.name=some (.ref fa) ->
   ∃ fd:FuncData,(∀ (s:Shared) (u:Value),BindsTo s fd ⟨[u],[]⟩ [(x,u)]) /\
    ∀ base:Heap,(K w.params).In base->base.Ns mainGlobals mg->FnOk l.prog w (K w.params) mg base CX k fa fd [x] (sp (K w.params)))
  (hsp:∀ (K:PySem.W.Frag) (H:Hp) (a:Addr) (ns:List Int),ns.length<=n->Only H->SqL K H a (ns.map V.int)->sp K [.ref a] H (fun v _=>v=.bl true) fun _ _ _=>False)
  (hCX:∀ (H:Hp) (s:Shared) (e:Value) (s':Shared),CX [] H s (fun _ _ _=>False) e s'->False) :
  PySem.W.WalkO q loose XP YP l.row.toRowW d [] (fun f vs=>PySem.call f vs) :=
 vW (K:=K) (CX:=fun _=>CX) (sp:=fun w=>sp (K w.params)) hn hn2 hdf hr hY F (fun w H a ns h1 h2 h3=>hsp (K w.params) H a ns h1 h2 h3) fun _ H s e s'=>hCX H s e s'
def inClass (s:Stmt) (j:Nat):Stmt:=match s with
 | .ClassDef _ _ _ body _ _ _ _ _ _ _=>body.getD j (.Pass ⟨0,0,0,0⟩)
 | _=>.Pass ⟨0,0,0,0⟩
def defArgs (s:Stmt):Arguments:=match s with
 | .FunctionDef _ a _ _ _ _ _ _ _ _=>a
 | _=>{ posonlyargs:=[],args:=[],vararg:=none,kwonlyargs:=[],kw_defaults:=[],kwarg:=none,defaults:=[] }
def defBody (s:Stmt):List Stmt:=match s with
 | .FunctionDef _ _ b _ _ _ _ _ _ _=>b
 | _=>[]
def defScope (s:Stmt):Scope:=match s with
 | .FunctionDef _ _ _ _ _ _ sc _ _ _=>sc
 | _=>{ kind:=.function,names:=[],isGenerator:=false,isCoroutine:=false }
abbrev CX0:CXT:=fun _ _ _ _ _ _=>False
abbrev E0:XK:=fun _ _ _=>False
theorem pass0 {X:Cx}:Passes CX0 X E0:=fun _ _ _ _ _ _ _ h=>h.elim
structure Fun (K:PySem.W.Frag) (x qual:Str) (st:Stmt) (f:Addr) (fd:FuncData):Prop where
 ex:∃ (oc:Value) (od:Option Addr) (kV doc pm:Value) (an:Option Addr) (cdv ct:Value) (osl:Array (Option Value)),
  fd=PySem.W.fnOf x qual (defArgs st) (defBody st) (defScope st) .none kV doc pm an cdv ct/\K.lookup f=some ⟨oc,od,.func fd,osl⟩/\PySem.W.codeIn K cdv qual=true
 kp:PySem.W.keepIn K (.ref f)=true
section
variable {P:Program}{w:World}{K:PySem.W.Frag}{mg:Str->Option Value}{base:Heap}
theorem Fun.ok {x qual:Str}{st:Stmt}{f:Addr}{fd:FuncData}{N ps:List Str}{k:Nat}{sp:Sp} (F:Fun K x qual st f fd) (S:FnScope N ps (defScope st)) (len:∀ vs H Q E,sp vs H Q E->vs.length=ps.length)
  (hbody:∀ (cdv:Value) (A:Around) (outer:List Env) (s:Shared) (H:Hp) (vs:List V) (Q:VK) (E:XK),Room k (A.deeper (envOfC qual (defScope st) s.heap.objs.size f cdv))->sp vs H Q E ->
   ∃ t,PSs (cxOf CX0 P w K mg base N qual (defScope st) f cdv A outer s H E).nox (defBody st) t/\t { nx:=fun _ H'=>Q .non H',rt:=Q } (start N vs) H):FnOk P w K mg base CX0 (k + 1) f fd ps sp:=by
 obtain ⟨oc,od,kV,doc,pm,an,cdv,ct,osl,rfl,lk,hcd⟩:=F.ex;refine vm lk hcd S len fun A outer s H vs Q E hr hsp=>?_
 obtain ⟨t,h,q⟩:=hbody cdv A outer s H vs Q E hr hsp;exact ⟨t,h.nox,q⟩
theorem Fun.binds {x qual:Str}{st:Stmt}{f:Addr}{fd:FuncData}{ps:List Str} (F:Fun K x qual st f fd)
  (h:∀ (kV doc pm:Value) (an:Option Addr) (cdv ct:Value) (us:List Value),us.length=ps.length->bindArgs (PySem.W.fnOf x qual (defArgs st) (defBody st) (defScope st) .none kV doc pm an cdv ct) ⟨us,[]⟩=pure (ps.zip us)):Binds K fd ps []:=by
 obtain ⟨oc,od,kV,doc,pm,an,cdv,ct,osl,rfl,lk,hcd⟩:=F.ex;exact .all (h kV doc pm an cdv ct)
theorem aG {x qual:Str}{st:Stmt}{f:Addr}{oc:Value}{od an:Option Addr}{osl:Array (Option Value)}{kV doc pm cdv ct:Value} (l:K.lookup f=some ⟨oc,od,.func (PySem.W.fnOf x qual (defArgs st) (defBody st) (defScope st) .none kV doc pm an cdv ct),osl⟩)
  (c:PySem.W.codeIn K cdv qual=true) (k:PySem.W.keepIn K (.ref f)=true):Fun K x qual st f (PySem.W.fnOf x qual (defArgs st) (defBody st) (defScope st) .none kV doc pm an cdv ct):=⟨⟨oc,od,kV,doc,pm,an,cdv,ct,osl,rfl,l,c⟩,k⟩
end
theorem di {A:Around}{k:Nat} (hr:Room k A):A.units + 1 < cLine:=Dj (Nat.add_le_add_left (by decide:1<=64) _) hr.units
theorem iteF {A B:Prop} (h:B):if false=true then A else B:=by
 rw [if_neg B9];exact h
theorem iteT {A B:Prop} (h:A):if true=true then A else B:=by
 rw [if_pos rfl];exact h
theorem ite2 {c A B:Prop} [Decidable c] (h1:c->A) (h2:¬ c->B):if c then A else B:=by
 by_cases h:c
 ·rw [if_pos h]
  exact h1 h
 ·rw [if_neg h]
  exact h2 h
end L2

namespace L2
open PySem PySem.Spec PyProof.Rows
variable{kvs:List (List Key × V)}{y:V}{u:Value}{P:Program}{w:World}{H H':Hp}{xs:List (List Key × Addr × Value)}{b a:Addr}{Q:Value->Shared->Prop}{h':Heap}{s:Shared}{pos:Pos}{X:Cx}{trs:List (TE × TE)}
section
variable {κ:Type} [DecidableEq κ]
def valV (kvs:List (κ × V)) (k:κ):Option V:=(kvs.find? fun kv=>decide (kv.1=k)).map (·.2)
def putK (kvs:List (κ × V)) (k:κ) (v:V):List (κ × V) :=
 if (kvs.any fun kv=>decide (kv.1=k))=true then kvs.map (fun kv=>if kv.1=k then (kv.1,v) else kv) else kvs++[(k,v)]
theorem cg {p:κ × V}{r:List (κ × V)}{k:κ} (e:p.1=k):valV (p :: r) k=some p.2:=by simp [valV,List.find?_cons,e]
theorem bX {p:κ × V}{r:List (κ × V)}{k:κ} (e:¬ p.1=k):valV (p :: r) k=valV r k:=by simp [valV,List.find?_cons,e]
theorem ft (k:κ):∀ kvs:List (κ × V),(kvs.any fun kv=>decide (kv.1=k))=(valV kvs k).isSome
 | []=>rfl
 | p :: r=>by
  rw [List.any_cons]
  by_cases e:p.1=k
  ·simp only [cg e,Co e,Bool.true_or,Option.isSome_some]
  ·rw [bX e,Cv e,Bool.false_or]; exact ft k r
theorem mO (k j:κ) (y:V):∀ kvs:List (κ × V),valV (kvs.map fun kv=>if kv.1=k then (kv.1,y) else kv) j=(valV kvs j).map fun x=>if j=k then y else x
 | []=>rfl
 | p :: r=>by
  have ih:=mO k j y r;rw [B4]
  by_cases h:p.1=k
  ·rw [if_pos h]
   by_cases e:p.1=j
   ·rw [cg (p:=(p.1,y)) e,cg e,Option.map_some,if_pos (e.symm.trans h)]
   ·rw [bX (p:=(p.1,y)) e,bX e,ih]
  ·rw [if_neg h]
   by_cases e:p.1=j
   ·rw [cg (p:=p) e,cg e,Option.map_some,if_neg (fun z=>h (e.trans z))]
   ·rw [bX (p:=p) e,bX e,ih]
theorem mR (k j:κ) (y:V):∀ kvs:List (κ × V),valV kvs k=none->valV (kvs++[(k,y)]) j=if j=k then some y else valV kvs j
 | [],_=>by
  by_cases e:k=j
  ·rw [if_pos e.symm]; exact cg (p:=(k,y)) e
  ·rw [if_neg (fun z=>e z.symm)]; exact bX (p:=(k,y)) e
 | p :: r,hn=>by
  rw [List.cons_append];have hk:¬ p.1=k:=fun z=>by rw [cg z] at hn; cases hn
  rw [bX hk] at hn;have ih:=mR k j y r hn
  by_cases e:p.1=j
  ·rw [cg e,cg e,if_neg (fun z=>hk (e.trans z))]
  ·rw [bX e,bX e,ih]
theorem vY (kvs:List (κ × V)) (k j:κ) (y:V):valV (putK kvs k y) j=if j=k then some y else valV kvs j:=by
 unfold putK
 by_cases a:(kvs.any fun kv=>decide (kv.1=k))=true
 ·rw [if_pos a,mO]
  rw [ft] at a
  by_cases e:j=k
  ·obtain ⟨x,hx⟩:=Option.isSome_iff_exists.mp a
   rw [if_pos e,e,hx,Option.map_some,if_pos rfl]
  ·rw [if_neg e]
   cases valV kvs j with
   | none=>rfl
   | some x=>rw [Option.map_some,if_neg e]
 ·rw [if_neg a]
  refine mR k j y kvs ?_;rw [ft] at a;cases q:valV kvs k with
  | none=>rfl
  | some x=>rw [q] at a; exact (a rfl).elim
theorem iT (kvs:List (κ × V)) (k:κ) (v:V):(putK kvs k v).length<=kvs.length + 1:=by
 unfold putK
 split
 ·rw [BF]; omega
 ·rw [BU,Cm,List.length_nil]; omega
theorem RelO.isSome_eq {o:Option V}{u:Option Value} (r:RelO o u):o.isSome=u.isSome:=by
 cases o with
 | none=>cases u with
  | none=>rfl
  | some _=>exact (show False from r).elim
 | some _=>cases u with
  | none=>exact (show False from r).elim
  | some _=>rfl
theorem KV.val {kvs:List (κ × V)}{vs:List (κ × Value)} (r:KV kvs vs) (k:κ):RelO (valV kvs k) (valueAt vs k):=by
 unfold KV at r
 induction r with
 | nil=>exact True.intro
 | @cons p q ps qs h t ih =>
  obtain ⟨h1,h2⟩:=h
  by_cases e:p.1=k
  ·have e':q.1=k:=h1.symm.trans e
   have b:valueAt (q :: qs) k=some q.2:=by simp [valueAt,List.find?_cons,e']
   rw [cg e,b]; exact h2
  ·have e':¬ q.1=k:=fun z=>e (h1.trans z)
   have b:valueAt (q :: qs) k=valueAt qs k:=by simp [valueAt,List.find?_cons,e']
   rw [bX e,b]; exact ih
theorem KV.any {kvs:List (κ × V)}{vs:List (κ × Value)} (r:KV kvs vs) (k:κ):(kvs.any fun kv=>decide (kv.1=k))=vs.any fun kv=>decide (kv.1=k):=by
 unfold KV at r
 induction r with
 | nil=>rfl
 | cons h t ih=>rw [List.any_cons,List.any_cons,ih,h.1]
theorem KV.repl {kvs:List (κ × V)}{vs:List (κ × Value)} (r:KV kvs vs) (k:κ) (ry:RelV y u) :
  KV (kvs.map fun kv=>if kv.1=k then (kv.1,y) else kv) (vs.map fun kv=>if kv.1=k then (kv.1,u) else kv):=by
 unfold KV at r ⊢
 induction r with
 | nil=>exact .nil
 | @cons p q ps qs h t ih =>
  rw [B4,B4];refine .cons ?_ ih;obtain ⟨h1,h2⟩:=h
  by_cases e:p.1=k
  ·rw [if_pos e,if_pos (h1.symm.trans e)]; exact ⟨h1,ry⟩
  ·rw [if_neg e,if_neg (fun z=>e (h1.trans z))]; exact ⟨h1,h2⟩
theorem KV.put {kvs:List (κ × V)}{vs:List (κ × Value)} (r:KV kvs vs) (k:κ) (ry:RelV y u):KV (putK kvs k y) (stored vs k u):=by
 unfold putK stored;rw [r.any k]
 by_cases e:(vs.any fun kv=>decide (kv.1=k))=true
 ·rw [if_pos e,if_pos e]; exact r.repl k ry
 ·rw [if_neg e,if_neg e]; exact Paired.snoc r ⟨rfl,ry⟩
theorem KV.length {kvs:List (κ × V)}{vs:List (κ × Value)} (r:KV kvs vs):kvs.length=vs.length:=BH r
end
theorem dZ{k:Key} (r:RelV (kV k) u):(mixKind P w).is k u=true:=by
 cases k with
 | inl i=>obtain ⟨t,e⟩:=(show ∃ t,u=Value.int i t from r); subst e; exact tm P w i t
 | inr x=>obtain ⟨t,e⟩:=(show ∃ t,u=Value.str x t from r); subst e; exact tw P w x t
theorem iU:∀ {ks:List Key}{us:List Value},Vals (ks.map kV) us->ItemsAre (mixKind P w) ks us
 | [],_,r=>by rw [List.map_nil] at r; cases r; exact .nil
 | k :: ks,_,r=>by
  rw [B4] at r;cases r with
  | cons h t=>exact .cons (dZ h) (iU t)
abbrev KT (H:Hp):List (List Key × V)->List (List Key × Addr × Value)->Prop:=Paired fun p q=>p.1=q.1/\H q.2.1=some (.tup (p.1.map kV))/\RelV p.2 q.2.2
theorem KT.val {H:Hp} (r:KT H kvs xs) (k:List Key):RelO (valV kvs k) ((atKey xs k).map (·.2)):=by
 induction r with
 | nil=>exact True.intro
 | @cons p q ps qs h t ih =>
  obtain ⟨h1,_,h2⟩:=h
  by_cases e:p.1=k
  ·have e':q.1=k:=h1.symm.trans e
   have b:atKey (q :: qs) k=some q.2:=by simp [atKey,List.find?_cons,e']
   rw [cg e,b]; exact h2
  ·have e':¬ q.1=k:=fun z=>e (h1.trans z)
   have b:atKey (q :: qs) k=atKey qs k:=by simp [atKey,List.find?_cons,e']
   rw [bX e,b]; exact ih
theorem KT.repl (r:KT H kvs xs) (k:List Key) (ry:RelV y u) :
  KT H (kvs.map fun kv=>if kv.1=k then (kv.1,y) else kv) (xs.map (putAt k u)):=by
 induction r with
 | nil=>exact .nil
 | @cons p q ps qs h t ih =>
  rw [B4,B4];refine .cons ?_ ih;obtain ⟨h1,h2,h3⟩:=h;unfold putAt
  by_cases e:p.1=k
  ·rw [if_pos e,if_pos (h1.symm.trans e)]; exact ⟨h1,h2,ry⟩
  ·rw [if_neg e,if_neg (fun z=>e (h1.trans z))]; exact ⟨h1,h2,h3⟩
theorem KT.put (r:KT H kvs xs) (k:List Key) (hb:H b=some (.tup (k.map kV))) (ry:RelV y u) :
  KT H (putK kvs k y) (storedH xs k b u):=by
 have e:(kvs.any fun kv=>decide (kv.1=k))=(atKey xs k).isSome:=by
  rw [ft,(r.val k).isSome_eq,Option.isSome_map]
 unfold putK storedH;rw [e]
 by_cases q:(atKey xs k).isSome=true
 ·rw [if_pos q,if_pos q]; exact r.repl k ry
 ·rw [if_neg q,if_neg q]; exact Paired.snoc r ⟨rfl,hb,ry⟩
theorem KT.keeps {H:Hp} (r:KT H kvs xs) (ht:∀ b ys,H b=some (.tup ys)->H' b=some (.tup ys)):KT H' kvs xs :=
 Paired.mapP r fun _ _ z=>⟨z.1,ht _ _ z.2.1,z.2.2⟩
section
variable {P:Program}{w:World}{H:Hp}{h:Heap}{a:Addr}
theorem mS {u:HO} (ok:HOk P w H h) (e:Rd H a u):ObjOk P w H h a u:=e.ok ok
theorem fu {kvs:List (Key × V)} (ok:HOk P w H h) (e:Rd H a (.dK kvs)):kvs.length<=sizeLine/\(a == sysModules)=false/\∃ vs,KV kvs vs/\h.DictOf (mixKind P w) a vs :=
 show ObjOk P w H h a (.dK kvs) from mS ok e
theorem mU {kvs:List (Key × V)} (ok:HOk P w H h) (e:H a=some (.dK kvs)):kvs.length<=sizeLine/\(a == sysModules)=false/\∃ vs,KV kvs vs/\h.DictOf (mixKind P w) a vs:=fu ok (.inl e)
theorem eQ {ks:List Key} (ok:HOk P w H h) (e:H a=some (.tup (ks.map kV))):(tupleKind (mixKind P w)).is h ks a:=by
 obtain ⟨_,its,r,o,h1,h2,n,h3⟩:=(show ObjOk P w H h a (.tup (ks.map kV)) from ok a _ e);exact ⟨o,its.toArray,n,h1,h2,h3,by simpa using iU r⟩
theorem fv (ok:HOk P w H h) (e:Rd H a (.dT kvs)):kvs.length<=sizeLine/\(a == sysModules)=false /\
  ∃ xs,KT H kvs xs/\h.DictOfH (tupleKind (mixKind P w)) a xs:=by
 obtain ⟨z,y,xs,r,o,es,ep,h1,h2,h3,h4,h5⟩:=(show ObjOk P w H h a (.dT kvs) from mS ok e);refine ⟨z,y,xs,r,o,es,ep,h1,h2,h3,h4,fun x hx=>?_,h5⟩
 have all:∀ {l:List (List Key × V)}{m:List (List Key × Addr × Value)},KT H l m->∀ x∈m,(tupleKind (mixKind P w)).is h x.1 x.2.1:=by
  intro l m q
  induction q with
  | nil=>intro x hx; exact nomatch hx
  | @cons p q ps qs hq t ih =>
   intro x hx;rcases BV.mp hx with e | hx
   ·subst e
    exact eQ ok (by rw [<- hq.1]; exact hq.2.1)
   ·exact ih x hx
 exact all r x hx
theorem vZ (ok:HOk P w H h) (e:H a=some (.dT kvs)):kvs.length<=sizeLine/\(a == sysModules)=false /\
  ∃ xs,KT H kvs xs/\h.DictOfH (tupleKind (mixKind P w)) a xs:=fv ok (.inl e)
end
def DGet (H:Hp) (a:Addr) (y:V) (r:Option V):Prop :=
 (∃ kvs k,Rd H a (.dK kvs)/\y=kV k/\r=valV kvs k)\/∃ kvs k b,Rd H a (.dT kvs)/\y=.ref b/\H b=some (.tup (k.map kV))/\r=valV kvs k
def DPut (H:Hp) (a:Addr) (y v:V) (H':Hp):Prop :=
 (∃ kvs k,H a=some (.dK kvs)/\y=kV k/\kvs.length < sizeLine/\H'=upd H a (.dK (putK kvs k v))) \/
 ∃ kvs k b,H a=some (.dT kvs)/\y=.ref b/\H b=some (.tup (k.map kV))/\kvs.length < sizeLine/\H'=upd H a (.dT (putK kvs k v))
theorem DGet.k{kvs:List (Key × V)}{k:Key} (e:H a=some (.dK kvs)):DGet H a (kV k) (valV kvs k):=.inl ⟨kvs,k,.inl e,rfl,rfl⟩
theorem DGet.t{k:List Key} (e:H a=some (.dT kvs)) (eb:H b=some (.tup (k.map kV))):DGet H a (.ref b) (valV kvs k):=.inr ⟨kvs,k,b,.inl e,rfl,eb,rfl⟩
theorem DPut.k{kvs:List (Key × V)}{k:Key}{v:V} (e:H a=some (.dK kvs)) (hl:kvs.length < sizeLine):DPut H a (kV k) v (upd H a (.dK (putK kvs k v))):=.inl ⟨kvs,k,e,rfl,hl,rfl⟩
section
variable {X:Cx}{pins:List (Addr × Obj)}{σ:St}{H:Hp}{s:Shared}{a:Addr}{y v:V}{u r:Value}{o:Option V}{A:Around}{E:Value->Shared->Prop}
theorem Inv.big (I:Inv X pins σ H s):sysModules < s.heap.objs.size:=by
 have h:mainGlobals < s.heap.objs.size:=(I.mod.glob.keeps I.bk).lt;exact Nat.lt_trans (by decide) h
theorem mV {Q:Value->Shared->Prop} (hu:A.units + 1 < cLine) (I:Inv X pins σ H s) (g:DGet H a y (some v)) (ry:RelV y u) (h:∀ w' s',Inv X pins σ H s'->RelV v w'->Q w' s') :
  wpAny (model X.prog X.w) A (getItem (.ref a) u) Q E s:=by
 rcases g with ⟨kvs,k,e,ey,l⟩ | ⟨kvs,k,b,e,ey,eb,l⟩
 ·subst ey
  obtain ⟨z,hd,vs,rel,dd⟩:=fu I.hok e;obtain ⟨w',hw,rw'⟩:=RelO.some_of (v:=v) (o:=valueAt vs k) (by rw [l]; exact rel.val k)
  exact wpAny_getItem_of (dZ ry) dd.mapOf hw (h w' _ (I.tok _) rw')
 ·subst ey
  cases (show u=Value.ref b from ry);obtain ⟨z,hd,xs,rel,dd⟩:=fv I.hok e;obtain ⟨w',hw,rw'⟩:=RelO.some_of (v:=v) (o:=(atKey xs k).map (·.2)) (by rw [l]; exact rel.val k)
  obtain ⟨p,hp,hp2⟩:=B5.mp hw;refine wpAny_getItem_heap (tupleKind_room_in1 hu) (eQ I.hok eb) dd hp ?_;rw [hp2];exact h w' _ (I.tok _) rw'
theorem d_in (hu:A.units + 1 < cLine) (I:Inv X pins σ H s) (g:DGet H a y o) (ry:RelV y u) (h:∀ s',Inv X pins σ H s'->Q (.bool o.isSome) s') :
  wpAny (model X.prog X.w) A (compareOp .In u (.ref a)) Q E s:=by
 rcases g with ⟨kvs,k,e,ey,l⟩ | ⟨kvs,k,b,e,ey,eb,l⟩
 ·subst ey
  obtain ⟨z,hd,vs,rel,dd⟩:=fu I.hok e;refine wpAny_in_of (dZ ry) hd dd.mapOf ?_;rw [<- (rel.val k).isSome_eq,<- l];exact h _ (I.tok _)
 ·subst ey
  cases (show u=Value.ref b from ry);obtain ⟨z,hd,xs,rel,dd⟩:=fv I.hok e;refine wpAny_in_heap (tupleKind_room_in1 hu) (eQ I.hok eb) hd dd ?_;have q:=(rel.val k).isSome_eq;rw [Option.isSome_map] at q;rw [<- q,<- l];exact h _ (I.tok _)
theorem v3 (hu:A.units + 1 < cLine) (I:Inv X pins σ H s) (g:DGet H a y o) (ry:RelV y u) (h:∀ s',Inv X pins σ H s'->Q (.bool (!o.isSome)) s') :
  wpAny (model X.prog X.w) A (compareOp .NotIn u (.ref a)) Q E s:=by
 rcases g with ⟨kvs,k,e,ey,l⟩ | ⟨kvs,k,b,e,ey,eb,l⟩
 ·subst ey
  obtain ⟨z,hd,vs,rel,dd⟩:=fu I.hok e;refine wpAny_notIn_of (dZ ry) hd dd.mapOf ?_;rw [<- (rel.val k).isSome_eq,<- l];exact h _ (I.tok _)
 ·subst ey
  cases (show u=Value.ref b from ry);obtain ⟨z,hd,xs,rel,dd⟩:=fv I.hok e;refine wpAny_notIn_heap (tupleKind_room_in1 hu) (eQ I.hok eb) hd dd ?_;have q:=(rel.val k).isSome_eq;rw [Option.isSome_map] at q;rw [<- q,<- l];exact h _ (I.tok _)
theorem iV{t':Nat}{ob:HO} (I:Inv X pins σ H s) (mu:Mut (H a)) (hs:Heap.SameBut a s.heap h') (he:∃ q,h'.get? a=some q) (new:ObjOk X.prog X.w (upd H a ob) h' a ob) :
  Inv X pins σ (upd H a ob) { s with heap:=h',toks:=t' } :=
 I.write (x:=a) (e:=a) mu (.inl rfl) (fun b q hb z=>(hs.2 b hb).trans z) he new
theorem mW{H':Hp}{kvs:List (Key × V)}{vs:List (Key × Value)} (z:kvs.length<=sizeLine) (hd:(a == sysModules)=false) (rel:KV kvs vs) (dd:h'.DictOf (mixKind P w) a vs) :
  ObjOk P w H' h' a (.dK kvs):=⟨z,hd,vs,rel,dd⟩
theorem v5{Q:Unit->Shared->Prop} (hu:A.units + 1 < cLine) (I:Inv X pins σ H s) (g:DPut H a y v H') (ry:RelV y u) (rv:RelV v r) (h:∀ s',Inv X pins σ H' s'->Q () s') :
  wpAny (model X.prog X.w) A (setItem (.ref a) u r) Q E s:=by
 rcases g with ⟨kvs,k,e,ey,l,eH⟩ | ⟨kvs,k,b,e,ey,eb,l,eH⟩
 ·subst ey eH
  obtain ⟨z,hd,vs,rel,dd⟩:=mU I.hok e;have hz:vs.length<=sizeLine:=by rw [<- rel.length]; exact z
  have hl:(putK kvs k v).length<=sizeLine:=by have:=iT kvs k v; omega
  refine wpAny_setItem_pairs (hsz:=hz) (dZ ry) dd fun h' dd' hs=>h _ ?_
  have he:∃ q,h'.get? a=some q:=let ⟨q,_,_,hq,_⟩:=dd'; ⟨q,hq⟩;exact iV I (by rw [e]; exact True.intro) hs he (mW hl hd (rel.put k rv) dd')
 ·subst ey eH
  cases (show u=Value.ref b from ry);obtain ⟨z,hd,xs,rel,dd⟩:=vZ I.hok e;have hz:xs.length<=sizeLine:=by rw [<- BH rel]; exact z
  have hl:(putK kvs k v).length<=sizeLine:=by have:=iT kvs k v; omega
  refine wpAny_setItem_heap (hsz:=hz) (tupleKind_room_in1 hu) (eQ I.hok eb) dd fun h' dd' hs=>h _ ?_
  obtain ⟨q,es,ep,hq,h2,h3,h4,_,h5⟩:=dd';refine iV I (by rw [e]; exact True.intro) hs ⟨q,hq⟩ ⟨hl,hd,_,(rel.put k eb rv).keeps fun c ys ec=>?_,q,es,ep,hq,h2,h3,h4,h5⟩
  rw [aD (aI ec e (fun z=>nomatch z))]
  exact ec
end
def NoSl (i:Expr):Prop:=∀ ov iv,subscripted i false ov iv=operate [ov,iv] (getItem ov iv)
theorem v7 {prog:Program}{w:World}{A:Around}{E:Value->Shared->Prop}{s:Shared}{env:Env}{value slice:Expr}{pos:Pos}{T id:String}{Q:Value->Shared->Prop}
  (hl:typeLookup (.type T) "__getitem__" = pure (some (.builtin id))) (hs:NoSl slice)
  (h:wpAny (model prog w) A (eval value env) (fun o s₁=>wpAny (model prog w) A (eval slice env) (fun i s₂=>s₂.TypeIs o T/\wpAny (model prog w) A (getItem o i) Q E s₂) E s₁) E s) :
  wpAny (model prog w) A (eval (.Subscript value slice pos) env) Q E s:=by
 refine Subscript_ (Cf h (fun o s₁ h₁=>Cf h₁ (fun i s₂ h₂=>?_) fun _ _ x=>x) fun _ _ x=>x)
 obtain ⟨hT,h₂⟩:=h₂;unfold subscriptTail;refine BE ?_;rw [getitemInPython_of_ne hT.not_modules];refine BE (wpAny_specialOf hT hl ?_);have fin:wpAny (model prog w) A (subscripted slice false o i) (fun r s₃=>wpAny (model prog w) A (letTemporaryGo value o r >>= fun _=>pure r) Q E s₃) E s₂:=by
  rw [hs o i];exact wpAny_operating (Cf h₂ (fun r s₃ h₃=>BE (wpAny_letTemporaryGo (BG h₃))) fun _ _ x=>x)
 first
  | exact BG (BE fin)
  | exact BE (BG (BE fin))
  | exact BE fin
theorem mX {X:Cx}{pins:List (Addr × Obj)}{σ:St}{H:Hp}{y:V}{o:Option V} (I:Inv X pins σ H s) (g:DGet H a y o):s.TypeIs (.ref a) "dict" := by
 rcases g with ⟨kvs,k,e,_,_⟩ | ⟨kvs,k,b,e,_,_,_⟩
 ·obtain ⟨_,_,vs,_,dd⟩:=fu I.hok e
  exact dd.typeIs
 ·obtain ⟨_,_,xs,_,dd⟩:=fv I.hok e
  exact dd.typeIs
def tDGet (td ty:TE):TE:=fun σ H Q=>td σ H fun x H1=>ty σ H1 fun y H2=>∃ a v,x=.ref a/\DGet H2 a y (some v)/\Q v H2
def tDIn (ty td:TE):TE:=fun σ H Q=>ty σ H fun y H1=>td σ H1 fun x H2=>∃ a o,x=.ref a/\DGet H2 a y o/\Q (.bl o.isSome) H2
def tDNotIn (ty td:TE):TE:=fun σ H Q=>ty σ H fun y H1=>td σ H1 fun x H2=>∃ a o,x=.ref a/\DGet H2 a y o/\Q (.bl (!o.isSome)) H2
def sDPut (td ty tv:TE):TS:=fun D σ H=>tv σ H fun v H1=>td σ H1 fun x H2=>ty σ H2 fun y H3=>∃ a H4,x=.ref a/\DPut H3 a y v H4/\D.nx σ H4
section
variable {X:Cx}{o i e value:Expr}{pos pos' tpos:Pos}{td ty tv:TE}
theorem v8 (hu:X.A.units + 1 < cLine) (ho:PE X o td) (hi:PE X i ty) (hs:NoSl i):PE X (.Subscript o i pos) (tDGet td ty):=by
 intro pins s σ H Q I h;refine v7 PySem.F.slot_dict_getitem.lookup hs (thn (ho pins s σ H _ I h) fun u s1 ⟨x,H1,I1,rx,q1⟩=>thn (hi pins s1 σ H1 _ I1 q1) fun iv s2 ⟨y,H2,I2,ry,a,v,ex,g,q2⟩=>?_)
 subst ex;obtain rfl:u=Value.ref a:=rx;exact ⟨mX I2 g,mV hu I2 g ry fun w' s3 I3 rw'=>⟨v,H2,I3,rw',q2⟩⟩
theorem v9 (hu:X.A.units + 1 < cLine) (hi:PE X i ty) (ho:PE X o td):PC X .In i o (tDIn ty td):=by
 intro pins s σ H Q I h;refine thn (hi pins s σ H _ I h) fun iv s1 ⟨y,H1,I1,ry,q1⟩=>thn (ho pins s1 σ H1 _ I1 q1) fun u s2 ⟨x,H2,I2,rx,a,ov,ex,g,q2⟩=>?_
 subst ex;obtain rfl:u=Value.ref a:=rx;exact d_in hu I2 g ry fun s3 I3=>⟨.bl ov.isSome,H2,I3,rfl,q2⟩
theorem wb (hu:X.A.units + 1 < cLine) (hi:PE X i ty) (ho:PE X o td):PC X .NotIn i o (tDNotIn ty td):=by
 intro pins s σ H Q I h;refine thn (hi pins s σ H _ I h) fun iv s1 ⟨y,H1,I1,ry,q1⟩=>thn (ho pins s1 σ H1 _ I1 q1) fun u s2 ⟨x,H2,I2,rx,a,ov,ex,g,q2⟩=>?_
 subst ex;obtain rfl:u=Value.ref a:=rx;exact v3 hu I2 g ry fun s3 I3=>⟨.bl (!ov.isSome),H2,I3,rfl,q2⟩
theorem wc (hu:X.A.units + 1 < cLine) (ho:PE X o td) (hi:PE X i ty) (hv:PE X value tv) (hs:swapsWith value (some (.Subscript o i pos')) pos.line X.env=pure false) :
  PS X (.Assign [.Subscript o i pos'] value pos) (sDPut td ty tv):=by
 intro pins s σ H D I h;refine wpAny_Assign_Subscript (thn (hv pins s σ H _ I h) fun r s1 ⟨v,H1,I1,rv,q1⟩=>thn (ho pins s1 σ H1 _ I1 q1) fun u s2 ⟨x,H2,I2,rx,q2⟩=>thn (hi pins s2 σ H2 _ I2 q2) fun iv s3 ⟨y,H3,I3,ry,a,H4,ex,g,q3⟩=>?_) hs
 subst ex;obtain rfl:u=Value.ref a:=rx;exact v5 hu I3 g ry rv fun s4 I4=>⟨σ,H4,I4,q3⟩
end
theorem mZ (h:Heap) (hb:sysModules < h.objs.size):ObjOk P w H (h.push { cls:=.type "dict",data:=.dict #[] }) h.objs.size (.dK []) :=
 ⟨Ck _,CB.mpr (B1 (BS hb)),[],.nil,Heap.DictOf.new h⟩
def tDNewK:TE:=fun _ H Q=>∀ p,H p=none->Q (.ref p) (upd H p (.dK []))
section
variable {X:Cx}{pos:Pos}
theorem we:PE X (.Dict [] [] pos) tDNewK:=fun pins s σ H Q I h =>
 wpAny_Dict_empty ⟨.ref s.heap.objs.size,_,I.laid (a:=s.heap.objs.size) (o:=.dK []) (t':=s.toks) (fun _ _ q=>BK _ q) (BI _) (mZ s.heap I.big),rfl,h _ (I.hok.fresh (BI _))⟩
end
def tPairs:List (TE × TE)->St->Hp->(List (V × V)->Hp->Prop)->Prop
 | [],_,H,Q=>Q [] H
 | (tk,tv) :: r,σ,H,Q=>tk σ H fun x H1=>tv σ H1 fun y H2=>tPairs r σ H2 fun ps H3=>Q ((x,y) :: ps) H3
abbrev VV:List (V × V)->List (Value × Value)->Prop:=Paired fun p q=>RelV p.1 q.1/\RelV p.2 q.2
def PPs (X:Cx) (pos:Pos) (keys:List (Option Expr)) (values:List Expr) (trs:List (TE × TE)):Prop :=
 ∀ (pins:List (Addr × Obj)) (s:Shared) (σ:St) (H:Hp) (Q:List (V × V)->Hp->Prop),Inv X pins σ H s->tPairs trs σ H Q ->
  wpAny (model X.prog X.w) X.A (evalPairs (pairTrees keys values X.env pos)) (fun vs s'=>∃ ps H',Inv X pins σ H' s'/\VV ps vs/\Q ps H') X.xe s
theorem wg:PPs X pos [] [] []:=fun pins s σ H Q I h=>pairTrees_nil_walk ⟨[],H,I,.nil,h⟩
theorem wj{k v:Expr}{ks:List (Option Expr)}{vs:List Expr}{tk tv:TE} (hk:PE X k tk) (hv:PE X v tv) (hr:PPs X pos ks vs trs) :
  PPs X pos (some k :: ks) (v :: vs) ((tk,tv) :: trs):=fun pins s σ H Q I h =>
 pairTrees_cons_walk (thn (hk pins s σ H _ I h) fun u s1 ⟨x,H1,I1,rx,q1⟩=>thn (hv pins s1 σ H1 _ I1 q1) fun w2 s2 ⟨y,H2,I2,ry,q2⟩ =>
  thn (hr pins s2 σ H2 _ I2 q2) fun ws s3 ⟨ps,H3,I3,rel,q3⟩=>⟨(x,y) :: ps,H3,I3,.cons ⟨rx,ry⟩ rel,q3⟩)
def mergeK (kvs more:List (Key × V)):List (Key × V):=more.foldl (fun acc kv=>putK acc kv.1 kv.2) kvs
theorem KV.merge:∀ {more:List (Key × V)}{rs:List (Key × Value)}{kvs:List (Key × V)}{vs:List (Key × Value)},KV more rs->KV kvs vs->KV (mergeK kvs more) (merged vs rs):=by
 intro more rs kvs vs r;unfold KV at r
 induction r generalizing kvs vs with
 | nil=>intro q; exact q
 | @cons p q ps qs h t ih =>
  intro r0;have e:KV (putK kvs p.1 p.2) (stored vs q.1 q.2):=by
   have:=r0.put p.1 h.2;rw [<- h.1]; exact this
  exact ih e
theorem m3:∀ (more kvs:List (Key × V)),(mergeK kvs more).length<=kvs.length + more.length
 | [],kvs=>by show kvs.length<=kvs.length + 0; omega
 | p :: r,kvs=>by
  have h1:=m3 r (putK kvs p.1 p.2);have h2:=iT kvs p.1 p.2;show (mergeK (putK kvs p.1 p.2) r).length<=_;rw [Cm]; omega
theorem m5 {P:Program}{w:World}:∀ {kvs:List (Key × V)}{ws:List (Value × Value)},VV (kvs.map fun kv=>(kV kv.1,kv.2)) ws->∃ rs,Carries (mixKind P w) ws rs/\KV kvs rs
 | [],_,r=>by rw [List.map_nil] at r; cases r; exact ⟨[],True.intro,.nil⟩
 | p :: kvs,_,r=>by
  rw [B4] at r;cases r with
  | @cons a b as bs h t =>
   obtain ⟨rs,c,q⟩:=m5 (P:=P) (w:=w) t;obtain ⟨b1,b2⟩:=b;exact ⟨(p.1,b2) :: rs,⟨dZ h.1,rfl,c⟩,.cons ⟨rfl,h.2⟩ q⟩
def tDisp (trs:List (TE × TE)):TE:=fun σ H Q=>∀ p,H p=none->tPairs trs σ (upd H p (.dK [])) fun ps H2=>H2 p=some (.dK [])/\∃ kvs:List (Key × V),ps=kvs.map (fun kv=>(kV kv.1,kv.2))/\kvs.length<=15/\Q (.ref p) (upd H2 p (.dK (mergeK [] kvs)))
theorem wx{keys:List (Option Expr)}{values:List Expr} (h:PPs X pos keys values trs) (hall:keys.all (·.isSome)=true) (hl:keys.length=values.length) (h0:keys≠[])
  (h15:keys.length<=15):PE X (.Dict keys values pos) (tDisp trs):=by
 intro pins s σ H Q I q;have hn:=I.hok.fresh (BI s.heap.objs.size);have I1:=I.laid (a:=s.heap.objs.size) (o:=.dK []) (h':=s.heap.push { cls:=.type "dict",data:=.dict #[] }) (t':=s.toks) (fun _ _ q=>BK _ q) (BI _) (mZ s.heap I.big)
 refine wpAny_Dict_walk (knd:=mixKind X.prog X.w) hall hl h0 h15 (thn (h pins _ σ _ _ I1 (q _ hn)) fun ws s2 ⟨ps,H2,I2,rel,e,kvs,ep,lk,q2⟩=>?_)
 subst ep;obtain ⟨rs,c,rk⟩:=m5 (P:=X.prog) (w:=X.w) rel;obtain ⟨z,hd,vs0,r0,dd⟩:=mU I2.hok e;cases r0;refine ⟨rs,c,dd,fun h' dd' hs=>⟨.ref s.heap.objs.size,_,?_,rfl,q2⟩⟩
 have hz:(mergeK [] kvs).length<=sizeLine:=by
  have h1:=m3 kvs [];rw [List.length_nil] at h1;rw [BR]; omega
 have he:∃ q,h'.get? s.heap.objs.size=some q:=let ⟨q,_,_,hq,_⟩:=dd'; ⟨q,hq⟩;exact iV I2 (by rw [e]; exact True.intro) hs he (mW hz hd (rk.merge .nil) dd')
end L2

namespace L2
open PySem PySem.Spec PyProof.Rows
variable{K:PySem.W.Frag}{X:Cx}{W:List Addr}{H H':Hp}{b a q:Addr}{o u:HO}{ns:List Int}{xs:List V}{g:TG}{tb:TS}{D:Ends}{σ:St}
structure DefOk (P:Program) (w:World) (K:PySem.W.Frag) (mg:Str->Option Value) (base:Heap) (CX:CXT) (k:Nat) (x:Str) (ps:List Str) (sp:Sp):Prop where
 ex:∃ (f:Addr) (fd:FuncData),FnOk P w K mg base CX k f fd ps sp/\Binds K fd ps []/\PySem.W.keepIn K (.ref f)=true/\mg x=some (.ref f)
theorem DefOk.mono {P:Program}{w:World}{mg:Str->Option Value}{base:Heap}{CX:CXT}{j k:Nat}{x:Str}{ps:List Str}{sp:Sp} (D:DefOk P w K mg base CX j x ps sp) (h:j<=k):DefOk P w K mg base CX k x ps sp:=by
 obtain ⟨f,fd,F,b⟩:=D.ex;exact ⟨f,fd,F.mono h,b⟩
section
variable {X:Cx}{CX:CXT}{k:Nat}{ps:List Str}{sp:Sp}{E:XK}{x:Str}{p pos:Pos}{e:Expr}{es:List Expr}{t:TA}
theorem wy (D:DefOk X.prog X.w X.K X.mg X.base CX k x ps sp) (hr:Room k X.A) (hg:Gl X x) (hx:Passes CX X E) (ha:PA X (e :: es) t) (hdb:(x == ("__debug__" : Str))=false:=by decide)
  (he:starEach (e :: es) X.env=(false,eval e X.env) :: starEach es X.env:=by rfl) (hpl:(backTo pos (starEach es X.env)).any (·.1)=false:=by rfl) :
  PE X (.Call (.Name x p) (e :: es) [] pos) (tCall sp [] E t):=by
 obtain ⟨f,fd,F,b,kp,m⟩:=D.ex;exact vf F hr hg m kp b .nil hx ha hdb he hpl
end
def CDivW (_ j:Int):Prop:=0 < j/\j < 2 ^ 64
theorem dj:OpR X (binaryOp .FloorDiv) (rI CDivW fun i j=>.int (i / j)):=opI fun i j _ _ _ _ _ hc q=>by
 have h1:(0:Int) < j:=hc.1;have h2:j < 2 ^ 64:=hc.2;have h3:j.natAbs.log2 < 64:=(Nat.log2_lt (by omega)).mpr (by omega)
 exact floordiv_int (by omega) (by rw [Int.fdiv_eq_ediv_of_nonneg i (by omega)]; exact q) (.inl (PyProof.noPylong_of_log2 (by omega)))
def Ch (W:List Addr) (H H':Hp):Prop:=∀ b o,H b=some o->b ∉ W->H' b=some o
theorem Ch.refl (W:List Addr) (H:Hp):Ch W H H:=fun _ _ h _=>h
theorem Ch.trans{H1 H2:Hp} (a:Ch W H H1) (b:Ch W H1 H2):Ch W H H2:=fun c o h n=>b c o (a c o h n) n
theorem Ch.get {W:List Addr}{H:Hp} (c:Ch W H H') (h:H b=some o) (n:b ∉ W):H' b=some o:=c b o h n
theorem Ch.mono {W W':List Addr} (c:Ch W H H') (h:∀ b∈W,b∈W'):Ch W' H H':=fun b o q n=>c b o q fun z=>n (h b z)
theorem Ch.wk (c:Ch [] H H'):Ch W H H':=c.mono fun b h=>nomatch h
theorem Ch.new {W:List Addr}{p:Addr} (h:H p=none) (o:HO):Ch W H (upd H p o):=fun b u q _=>by rw [aD (ar q h)]; exact q
theorem Ch.put{p:Addr}{o:HO}:Ch [p] H (upd H p o):=fun b u q n=>by rw [aD (fun z=>n (by simp [z]))]; exact q
def Scr (K:PySem.W.Frag) (H:Hp) (a:Addr) (ns:List Int):Prop :=
 ns.length<=63/\((∃ o,H a=some (.frz o (.lst (ns.map V.int)))) \/
  ∃ (o:Obj) (its:Array Value) (n:Nat),K.lookup a=some o/\o.cls=.type "list" /\ o.dict=none/\o.data=.seq its n/\its.size<=sizeLine/\Vals (ns.map V.int) its.toList)
theorem Scr.sq (S:Scr K H a ns):SqL K H a (ns.map V.int):=by
 rcases S.2 with ⟨o,h⟩ | h
 ·exact .inl (.inr ⟨o,h⟩)
 ·exact .inr h
theorem Scr.ch{H:Hp}{b:Addr}{xs:List V} (S:Scr K H a ns) (hb:H b=some (.lst xs)) (c:Ch [b] H H'):Scr K H' a ns:=by
 refine ⟨S.1,?_⟩;rcases S.2 with ⟨o,h⟩ | h
 ·exact .inl ⟨o,c.get h (by
   intro z;have e:a=b:=by simpa using z
   subst e;rw [h] at hb;cases hb)⟩
 ·exact .inr h
theorem Scr.same{H:Hp} (S:Scr K H a ns) (c:Ch [] H H'):Scr K H' a ns:=by
 refine ⟨S.1,?_⟩;rcases S.2 with ⟨o,h⟩ | h
 ·exact .inl ⟨o,c.get h (by simp)⟩
 ·exact .inr h
theorem Scr.of (h:SqL K H a (ns.map V.int)) (hl:ns.length<=63) (hO:Only H):Scr K H a ns:=by
 refine ⟨hl,?_⟩;rcases h with (h | ⟨o,h⟩) | h
 ·rcases hO a with z | ⟨o,xs,z⟩
  ·rw [h] at z; cases z
  ·rw [h] at z; cases z
 ·exact .inl ⟨o,h⟩
 ·exact .inr h
theorem aA{p:Addr} (hq:H q=none) (h:H p=some o):upd H q u p=some o:=by rw [aD (ar h hq)]; exact h
theorem aB{p:Addr} (n:p≠q) (h:H p=some o):upd H q u p=some o:=by rw [aD n]; exact h
structure Loop (J:It) (g:TG) (tb:TS) (D:Ends) (σ:St) (H:Hp):Prop where
 ex:∃ W:Nat->Nat->St->Hp->Prop,(∃ m,W 0 m σ H)/\∀ i m σ H,W i m σ H ->
  (J.stop i H/\D.nx σ H)\/(J.go i H/\∃ N:St->Hp->Prop,(∀ σ' H',N σ' H'->∃ m',m' < m/\W (i + 1) m' σ' H')/\∀ x H',J.yld i H x H'->g x σ H' fun σ2 H2=>tb { D with nx:=N,ct:=N,bk:=D.nx } σ2 H2)
def tLoop (wi:TI) (g:TG) (tb:TS):TS:=fun D σ H=>wi σ H fun J H1=>Loop J g tb D σ H1
theorem wA{tg iter:Expr}{body:List Stmt}{wi:TI}{pos:Pos} (hp:PassesOwn (model X.prog X.w) X.A X.env X.xe) (hc:X.calm=true) (hi:PI X tg iter wi) (hg:PG X tg g) (hb:PSs X body tb)
  (hs:∀ x,foldedSetIterable iter X.env x=pure x:=by intro _; rfl):PS X (.For tg iter body [] pos) (tLoop wi g tb):=by
 have hi':PI X tg iter (fun σ H R=>∃ R0:It->Hp->Prop,wi σ H R0/\∀ J H1,R0 J H1->R J H1):=by
  intro pins s σ H R I ⟨R0,h,m⟩;refine thn (hi pins s σ H _ I h) fun v s1 h1=>thn h1 fun itv s2 h2=>?_
  obtain ⟨it,fp,tn,J,H2,e,I2,T,st2,f2,r⟩:=h2;exact ⟨it,fp,tn,J,H2,e,I2,T,st2,f2,m _ _ r⟩
 intro pins s σ H D I h;exact uB hp hc hi' hg hb hs pins s σ H D I ⟨_,h,fun J H1 l=>l.ex⟩
theorem dM{xs:List V}{g:TG}{tb:TS}{D:Ends} (Pv:Nat->St->Hp->Prop) (h0:Pv 0 σ H) (hl:∀ i σ H,i<=xs.length->Pv i σ H->SqL K H a xs)
  (hs:∀ i x σ H,xs[i]?=some x->Pv i σ H->g x σ H fun σ2 H2=>tb { D with nx:=Pv (i + 1),ct:=Pv (i + 1),bk:=D.nx } σ2 H2) (hd:∀ σ H,Pv xs.length σ H->D.nx σ H):Loop (Itl K a) g tb D σ H:=⟨uC Pv h0 hl hs hd⟩
theorem m6{xs:List V}{g:TG}{tb:TS}{D:Ends} (Pv:Nat->St->Hp->Prop) (h0:Pv 0 σ H) (hl:∀ i σ H,i<=xs.length->Pv i σ H->SqT K H a xs)
  (hs:∀ i x σ H,xs[i]?=some x->Pv i σ H->g x σ H fun σ2 H2=>tb { D with nx:=Pv (i + 1),ct:=Pv (i + 1),bk:=D.nx } σ2 H2) (hd:∀ σ H,Pv xs.length σ H->D.nx σ H):Loop (Itt K a) g tb D σ H:=⟨uD Pv h0 hl hs hd⟩
theorem eR {lo:Int}{n:Nat}{g:TG}{tb:TS}{D:Ends} (Pv:Nat->St->Hp->Prop) (h0:Pv 0 σ H)
  (hs:∀ i σ H,i < n->Pv i σ H->g (.int (lo + i)) σ H fun σ2 H2=>tb { D with nx:=Pv (i + 1),ct:=Pv (i + 1),bk:=D.nx } σ2 H2) (hd:∀ σ H,Pv n σ H->D.nx σ H):Loop (Itr lo n) g tb D σ H:=⟨uE Pv h0 hs hd⟩
structure Cut (t u:TS) (D:Ends) (σ:St) (H:Hp):Prop where
 ex:∃ P:St->Hp->Prop,t { D with nx:=P } σ H/\∀ σ' H',P σ' H'->u D σ' H'
def tCut (t u:TS):TS:=fun D σ H=>Cut t u D σ H
theorem wB{st:Stmt}{rest:List Stmt}{t u:TS} (h1:PS X st t) (h2:PSs X rest u):PSs X (st :: rest) (tCut t u):=by
 intro pins s σ H D I h;obtain ⟨P,a,b⟩:=h.ex;have h1':PS X st (fun D' σ' H'=>∃ P:St->Hp->Prop,t { D' with nx:=P } σ' H'/\∀ σ2 H2,P σ2 H2->D'.nx σ2 H2):=by
  intro pins s σ H D I ⟨P,a,b⟩;refine thn (h1 pins s σ H _ I a) fun f s' q=>?_
  cases f with
  | next=>obtain ⟨σ7,H7,I7,n7⟩:=q; exact ⟨σ7,H7,I7,b _ _ n7⟩
  | cont=>exact q
  | brk=>exact q
  | ret v=>exact q
 exact lT h1' h2 pins s σ H D I ⟨P,a,b⟩
theorem gc {t u:TS} (P:St->Hp->Prop) (h1:t { D with nx:=P } σ H) (h2:∀ σ' H',P σ' H'->u D σ' H'):Cut t u D σ H:=⟨P,h1,h2⟩
theorem nc {ns:List Int}{i:Int} (h0:0<=i) (h1:i < (ns.length:Int)):∃ n:Int,atI (ns.map V.int) i=some (.int n):=by
 have hk:i.toNat < ns.length:=by omega
 have ek:i=((i.toNat:Nat):Int):=by omega
 have q:atI (ns.map V.int) ((i.toNat:Nat):Int)=some (.int ns[i.toNat]):=bW (by rw [BN,BJ hk]; rfl)
 rw [<- ek] at q;exact ⟨_,q⟩
end L2

namespace L2
open PySem PySem.Spec PyProof.Rows
structure Atx {α:Type} (xs:List α) (i:Int) (R:α->Prop):Prop where
 ex:∃ v,atI xs i=some v/\R v
theorem Atx.of {α:Type}{xs:List α}{i:Int}{v:α}{R:α->Prop} (h:atI xs i=some v) (r:R v):Atx xs i R:=⟨v,h,r⟩
theorem Atx.nat {α:Type}{xs:List α}{i:Nat}{v:α}{R:α->Prop} (h:xs[i]?=some v) (r:R v):Atx xs (i:Int) R:=⟨v,bW h,r⟩
section
variable {X:Cx}
theorem IxR.imp {r r':R2} (h:IxR X r) (f:∀ x y H Q,r' x y H Q->r x y H Q):IxR X r':=fun value slice pins s σ H x y v u Q I rx ry q hs=>h value slice pins s σ H x y v u Q I rx ry (f _ _ _ _ q) hs
def aIxL (K:PySem.W.Frag):R2:=fun x y H Q=>∃ p xs i,x=.ref p/\y=.int i/\SqL K H p xs/\Atx xs i fun v=>Q v H
def aIxT (K:PySem.W.Frag):R2:=fun x y H Q=>∃ p xs i,x=.ref p/\y=.int i/\SqT K H p xs/\Atx xs i fun v=>Q v H
theorem bR:IxR X (aIxL X.K):=vD.imp fun x y H Q ⟨p,xs,i,e1,e2,h,a⟩=>let ⟨v,hv,q⟩:=a.ex; ⟨p,xs,i,v,e1,e2,h,hv,q⟩
theorem az:IxR X (aIxT X.K):=vE.imp fun x y H Q ⟨p,xs,i,e1,e2,h,a⟩=>let ⟨v,hv,q⟩:=a.ex; ⟨p,xs,i,v,e1,e2,h,hv,q⟩
end
end L2
namespace L2
open PySem
section
variable {es:List Expr}{env:Env}
theorem ae {x pos}:starEach (.Name x pos :: es) env=(false,eval (.Name x pos) env) :: starEach es env:=rfl
theorem aV {c k pos}:starEach (.Constant c k pos :: es) env=(false,eval (.Constant c k pos) env) :: starEach es env:=rfl
theorem bT {a o b pos}:starEach (.BinOp a o b pos :: es) env=(false,eval (.BinOp a o b pos) env) :: starEach es env:=rfl
theorem iW {a o pos}:starEach (.UnaryOp o a pos :: es) env=(false,eval (.UnaryOp o a pos) env) :: starEach es env:=rfl
theorem bf {a o b pos}:starEach (.Call a o b pos :: es) env=(false,eval (.Call a o b pos) env) :: starEach es env:=rfl
theorem dF {a k pos}:starEach (.Tuple a k pos :: es) env=(false,eval (.Tuple a k pos) env) :: starEach es env:=rfl
theorem wF {a pos}:starEach (.List a pos :: es) env=(false,eval (.List a pos) env) :: starEach es env:=rfl
theorem aS {a b pos}:starEach (.Subscript a b pos :: es) env=(false,eval (.Subscript a b pos) env) :: starEach es env:=rfl
theorem bH {a b pos}:starEach (.Attribute a b pos :: es) env=(false,eval (.Attribute a b pos) env) :: starEach es env:=rfl
theorem bc {a b c pos}:starEach (.ListComp a b c pos :: es) env=(false,eval (.ListComp a b c pos) env) :: starEach es env:=rfl
theorem wG {a b pos}:starEach (.Dict a b pos :: es) env=(false,eval (.Dict a b pos) env) :: starEach es env:=rfl
end
end L2
namespace L2
open PySem
theorem Ch.own {W:List Addr}{H H':Hp}{p:Addr}{o:HO} (n:H p=none) (c:Ch W H H'):Ch W H (upd H' p o):=fun b u h k=>by
 rw [aD (ar h n)];exact c b u h k
end L2
namespace L2
open PySem
theorem Atx.head {α:Type}{x:α}{xs:List α}{R:α->Prop} (r:R x):Atx (x :: xs) 0 R:=⟨x,bW (j:=0) rfl,r⟩
end L2

namespace L2
open PySem PySem.Spec PyProof.Rows
variable{k k1 k2:SK}{h h':Heap}{l z i1 i2 l1 l2 a:Addr}{i n1 n2 t':Nat}{x b:Value}{Q:Value->Shared->Prop}{xs ys:Array Value}{its:List Addr}{X:Cx}{pins:List (Addr × Obj)}{H:Hp}{s:Shared}{K:PySem.W.Frag}
inductive SK where
 | list | tuple
def SIt (k:SK) (h:Heap) (it l:Addr) (i:Nat):Prop:=match k with
 | .list=>h.IsListIter it l i
 | .tuple=>h.IsTupleIter it l i
def SIs (k:SK) (h:Heap) (l:Addr) (items:Array Value):Prop:=match k with
 | .list=>h.IsList l items
 | .tuple=>h.IsTuple l items
def Sq (k:SK) (K:PySem.W.Frag) (H:Hp) (a:Addr) (xs:List V):Prop:=match k with
 | .list=>SqL K H a xs
 | .tuple=>SqT K H a xs
theorem SIt.at{h:Heap}{a l i} (x:SIt k h a l i) (e:∀ o,h.get? a=some o->h'.get? a=some o):SIt k h' a l i:=by
 cases k with
 | list=>exact Heap.IsListIter.at x e
 | tuple=>exact Heap.IsTupleIter.at x e
theorem SIt.obj {k:SK}{a l i} (x:SIt k h a l i):∃ o,h.get? a=some o/\∀ v,o.data≠.cell v:=by
 cases k with
 | list=>obtain ⟨o,e,c,d⟩:=(show h.IsListIter a l i from x); exact ⟨o,e,fun v z=>by rw [d] at z; cases z⟩
 | tuple=>obtain ⟨o,e,c,d⟩:=(show h.IsTupleIter a l i from x); exact ⟨o,e,fun v z=>by rw [d] at z; cases z⟩
theorem SIs.at {k:SK}{h:Heap}{a items} (x:SIs k h a items) (e:∀ o,h.get? a=some o->h'.get? a=some o):SIs k h' a items:=by
 cases k with
 | list=>exact Heap.IsList.at x e
 | tuple=>obtain ⟨o,ho,r⟩:=(show h.IsTuple a items from x); exact ⟨o,e _ ho,r⟩
theorem SIs.lt {k:SK}{a items} (x:SIs k h a items):a < h.objs.size:=by
 cases k with
 | list=>obtain ⟨_,e,_⟩:=(show h.IsList a items from x); exact BM e
 | tuple=>obtain ⟨_,e,_⟩:=(show h.IsTuple a items from x); exact BM e
section
variable {prog:Program}{w:World}{A:Around}{E:Value->Shared->Prop}{s:Shared}
theorem wH {it:Addr}{items}{x:Value}{Q:Value->Shared->Prop} (hit:s.heap.IsTupleIter it l i)
  (hl:s.heap.IsTuple l items) (hx:items[i]?=some x)
  (hQ:∀ h',h'.IsTupleIter it l (i + 1)->Heap.SameBut it s.heap h'->Q x { s with heap:=h' }) :
  wpAny (model prog w) A (Builtin.SmallTypes.nextOf (.ref it)) Q E s:=by
 obtain ⟨o,ho,hc,hd⟩:=id hit;obtain ⟨ol,hol,_,nl,hdl⟩:=hl;unfold Builtin.SmallTypes.nextOf;refine BE (C9 (name:=Str.ofString "__next__") hit.typeIs F.slot_tuple_iterator_next
  (CW F.slot_tuple_iterator_next hit.typeIs F.entry_tuple_iterator_next ?_ (F.args_tuple_iterator_next_1 _)))
 show wpAny _ _ (field (.ref it) 0 >>= _) _ _ s;refine BE (Cg ho hd (x:=.ref l) rfl ?_);show wpAny _ _ (if (Value.ref l == Value.none)=true then _ else _) _ _ s;rw [if_neg (show ¬ ((Value.ref l == Value.none)=true) from B9)];show wpAny _ _ (field (.ref it) 1 >>= _) _ _ s;refine BE (Cg ho hd (x:=.int i 0) rfl ?_);show wpAny _ _ (seqItems? (.ref l) >>= _) _ _ s;refine BE (CN hol hdl ?_);simp only [Dc,hx];refine BE (wpAny_setField ho hd (by simp) (BG ⟨x,rfl,BG (hQ _ ?_ (Heap.SameBut.update ..))⟩))
 exact ⟨_,Heap.get?_update_self _ ho (Obj.isFreed_of_fields (Obj.data_mapFields hd _)),(Obj.cls_mapFields ..).trans hc,by
  rw [Obj.data_mapFields hd]; simp [rawInt]⟩
theorem wI {it l:Addr}{i:Nat}{items}{Q:Value->Shared->Prop} (hh:A.handled=none)
  (hit:s.heap.IsTupleIter it l i) (hl:s.heap.IsTuple l items) (hx:items[i]?=none)
  (hE:∀ h' e,Heap.ExtBut it s.heap h'->(∃ o,h'.get? e=some o/\o.cls=.type "StopIteration")->E (.ref e) { s with heap:=h' }) :
  wpAny (model prog w) A (Builtin.SmallTypes.nextOf (.ref it)) Q E s:=by
 obtain ⟨o,ho,hc,hd⟩:=id hit;obtain ⟨ol,hol,_,nl,hdl⟩:=hl;unfold Builtin.SmallTypes.nextOf;refine BE (C9 (name:=Str.ofString "__next__") hit.typeIs F.slot_tuple_iterator_next
  (CW F.slot_tuple_iterator_next hit.typeIs F.entry_tuple_iterator_next ?_ (F.args_tuple_iterator_next_1 _)))
 show wpAny _ _ (field (.ref it) 0 >>= _) _ _ s;refine BE (Cg ho hd (x:=.ref l) rfl ?_);show wpAny _ _ (if (Value.ref l == Value.none)=true then _ else _) _ _ s;rw [if_neg (show ¬ ((Value.ref l == Value.none)=true) from B9)];show wpAny _ _ (field (.ref it) 1 >>= _) _ _ s;refine BE (Cg ho hd (x:=.int i 0) rfl ?_);show wpAny _ _ (seqItems? (.ref l) >>= _) _ _ s;refine BE (CN hol hdl ?_);simp only [Dc,hx];refine BE (wpAny_rule (BE (wpAny_setField ho hd (by simp) ?_)))
 show wpAny _ _ (newExc (.type "StopIteration") [] >>= _) _ _ _;refine BE ?_;simp only [newExc,newTuple];refine BE (C5 ?_ (by size_fits))
 refine BE (m:=firstArgMember _ _) (wpAny_of_eq (a:=Value.none) (by first | rfl | (simp only [firstArgMember]; rfl)) ?_)
 refine C5 ?_ (by size_fits)
 simp only [raiseNew];refine BE (wpAny_handled ?_)
 first | rw [show A.in1.handled=none from hh] | rw [hh]
 refine BE (BG (wpAny_throw ?_));exact hE _ _ (((Heap.SameBut.update ..).extBut.push _).push _) ⟨_,B3 _ rfl,rfl⟩
theorem gf{it:Addr}{items}{Q:Value->Shared->Prop} (hit:SIt k s.heap it l i) (hl:SIs k s.heap l items) (hx:items[i]?=some x)
  (hQ:∀ h',SIt k h' it l (i + 1)->Heap.SameBut it s.heap h'->Q x { s with heap:=h' }):wpAny (model prog w) A (Builtin.SmallTypes.nextOf (.ref it)) Q E s:=by
 cases k with
 | list=>exact wpAny_nextOf_list_item hit hl hx hQ
 | tuple=>exact wH hit hl hx hQ
theorem iX{it:Addr}{items}{Q:Value->Shared->Prop} (hh:A.handled=none) (hit:SIt k s.heap it l i) (hl:SIs k s.heap l items) (hx:items[i]?=none)
  (hE:∀ h' e,Heap.ExtBut it s.heap h'->(∃ o,h'.get? e=some o/\o.cls=.type "StopIteration")->E (.ref e) { s with heap:=h' }) :
  wpAny (model prog w) A (Builtin.SmallTypes.nextOf (.ref it)) Q E s:=by
 cases k with
 | list=>exact wpAny_nextOf_list_end hh hit hl hx hE
 | tuple=>exact wI hh hit hl hx hE
theorem SIt.ext{h:Heap}{a b l i} (x:SIt k h a l i) (hs:Heap.ExtBut b h h') (hab:a≠b):SIt k h' a l i:=x.at fun o e=>hs _ _ hab e
theorem SIs.ext{h:Heap}{a b items} (x:SIs k h a items) (hs:Heap.ExtBut b h h') (hab:a≠b):SIs k h' a items:=x.at fun o e=>hs _ _ hab e
theorem wJ {k1 k2:SK}{TI TO:Addr}{n1 n2:Nat}{xs ys:Array Value}{x y a b:Value}{Q:Value->Shared->Prop} (D:ZipApart z TI TO i1 i2 l1 l2)
  (hz:IsZip s.heap z TI TO .none) (hTI:IsPair s.heap TI (.ref i1) (.ref i2)) (hTO:IsPair s.heap TO a b)
  (h1:SIt k1 s.heap i1 l1 n1) (h2:SIt k2 s.heap i2 l2 n2) (hl1:SIs k1 s.heap l1 xs) (hl2:SIs k2 s.heap l2 ys) (hx:xs[n1]?=some x) (hy:ys[n2]?=some y)
  (hQ:∀ h',IsZip h' z TI TO (rawInt s.heap.objs.size)->IsPair h' TO x y->SIt k1 h' i1 l1 (n1 + 1)->SIt k2 h' i2 l2 (n2 + 1)->IsPair h' s.heap.objs.size x y->h'.objs.size=s.heap.objs.size + 1 ->
   (∀ c o,c≠z->c≠TO->c≠i1->c≠i2->s.heap.get? c=some o->h'.get? c=some o)->Q (.ref s.heap.objs.size) { s with heap:=h' }) :
  wpAny (model prog w) A (Builtin.«zip.__next__» ⟨[.ref z],[]⟩) (fun fin s'=>∃ v,fin=.done (.ret v)/\Q v s') E s:=by
 show wpAny _ _ (field (.ref z) 2 >>= _) _ _ _;refine BE (Cg hz rfl (x:=.bool false) rfl ?_);show wpAny _ _ (field (.ref z) 3 >>= _) _ _ _;refine BE (Cg hz rfl (x:=.ref TI) rfl ?_);refine BE (CN hTI rfl ?_);show wpAny _ _ (Builtin.SmallTypes.ownedTupleIsFree (.ref z) >>= _) _ _ _;refine BE ?_;unfold Builtin.SmallTypes.ownedTupleIsFree;refine BE (Cg hz rfl (x:=.none) rfl (BG ?_));simp only [if_true];refine BE (wpAny_rule ?_);refine BE (Cg hz rfl (x:=.ref TO) rfl ?_);refine BE (CZ hz (by simp) fun h₁ hz₁ hs₁=>?_)
 replace hz₁:IsZip h₁ z TI TO .ellipsis:=hz₁
 refine BE ?_;simp only [List.zipIdx_cons,List.zipIdx_nil,List.forIn_cons,List.forIn_nil];refine BE (BE (wpAny_onRaise ?_));show wpAny _ _ (Builtin.SmallTypes.nextOf (.ref i1) >>= _) _ _ _;refine BE (gf (h1.ext hs₁.extBut D.i1z) (hl1.ext hs₁.extBut D.l1z) hx fun h₂ h1₂ hs₂=>BG ?_)
 have hTO₂:IsPair h₂ TO a b:=hs₂.extBut _ _ D.TOi1 (hs₁.extBut _ _ D.TOz hTO);refine BE (CN hTO₂ rfl ?_);refine BE (wpAny_updateSeq_pair hTO₂ fun h₃ hTO₃ hs₃=>?_)
 replace hTO₃:IsPair h₃ TO x b:=hTO₃
 refine BE (wpAny_letGo (BG ?_));refine BE (BE (wpAny_onRaise ?_));show wpAny _ _ (Builtin.SmallTypes.nextOf (.ref i2) >>= _) _ _ _;refine BE (gf (((h2.ext hs₁.extBut D.i2z).ext hs₂.extBut D.i12.symm).ext hs₃.extBut D.TOi2.symm)
  (((hl2.ext hs₁.extBut D.l2z).ext hs₂.extBut D.l2i1).ext hs₃.extBut D.l2TO) hy fun h₄ h2₄ hs₄=>BG ?_)
 have hTO₄:IsPair h₄ TO x b:=hs₄.extBut _ _ D.TOi2 hTO₃;refine BE (CN hTO₄ rfl ?_);refine BE (wpAny_updateSeq_pair hTO₄ fun h₅ hTO₅ hs₅=>?_)
 replace hTO₅:IsPair h₅ TO x y:=hTO₅
 refine BE (wpAny_letGo (BG (BG ?_)));refine BE (CN hTO₅ rfl ?_);refine BE (wpAny_newTuple ?_);have hsz:h₅.objs.size=s.heap.objs.size:=by rw [hs₅.1,hs₄.1,hs₃.1,hs₂.1,hs₁.1]
 have hz₅:IsZip h₅ z TI TO .ellipsis:=hs₅.extBut _ _ D.TOz.symm (hs₄.extBut _ _ D.i2z.symm (hs₃.extBut _ _ D.TOz.symm (hs₂.extBut _ _ D.i1z.symm hz₁)));have hk₅:∀ c o,c≠z->c≠TO->c≠i1->c≠i2->s.heap.get? c=some o->h₅.get? c=some o:=fun c o c1 c2 c3 c4 e =>
  hs₅.extBut _ _ c2 (hs₄.extBut _ _ c4 (hs₃.extBut _ _ c2 (hs₂.extBut _ _ c3 (hs₁.extBut _ _ c1 e))))
 have h1₅:SIt k1 h₅ i1 l1 (n1 + 1):=((h1₂.ext hs₃.extBut D.TOi1.symm).ext hs₄.extBut D.i12).ext hs₅.extBut D.TOi1.symm;have h2₅:SIt k2 h₅ i2 l2 (n2 + 1):=h2₄.ext hs₅.extBut D.TOi2.symm;have hzlt:z < h₅.objs.size:=BM hz₅;show wpAny _ _ (Builtin.SmallTypes.ownedTupleHandOut (.ref z) (.ref h₅.objs.size) >>= _) _ _ _;refine BE ?_;unfold Builtin.SmallTypes.ownedTupleHandOut;have hz₆:IsZip (h₅.push { cls:=.type "tuple",data:=.seq #[x,y] }) z TI TO .ellipsis:=BK _ hz₅;refine BE (CZ hz₆ (by simp) fun h₇ hz₇ hs₇=>?_)
 replace hz₇:IsZip h₇ z TI TO (rawInt h₅.objs.size):=hz₇
 refine CZ hz₇ (by simp) fun h₈ hz₈ hs₈=>?_
 replace hz₈:IsZip h₈ z TI TO (rawInt h₅.objs.size):=hz₈
 have up:∀ c o,c≠z->h₅.get? c=some o->h₈.get? c=some o:=fun c o c1 e=>hs₈.extBut _ _ c1 (hs₇.extBut _ _ c1 (BK _ e))
 have hT₈:IsPair h₈ h₅.objs.size x y:=hs₈.extBut _ _ (CJ hzlt) (hs₇.extBut _ _ (CJ hzlt) (B3 _ rfl));have hz8:h₈.objs.size=h₅.objs.size + 1:=by rw [hs₈.1,hs₇.1,CF]
 rw [hsz] at hz₈ hT₈ hz8;refine BG ⟨_,rfl,?_⟩;show Q (.ref h₅.objs.size) _;rw [hsz];exact hQ h₈ hz₈ (up _ _ D.TOz hTO₅) (h1₅.at fun o e=>up _ o D.i1z e) (h2₅.at fun o e=>up _ o D.i2z e) hT₈ hz8 fun c o c1 c2 c3 c4 e=>up c o c1 (hk₅ c o c1 c2 c3 c4 e)
theorem wK {k1 k2:SK}{TI TO:Addr}{n1 n2:Nat}{xs ys:Array Value}{a b:Value}{Q:Fin->Shared->Prop} (hh:A.handled=none) (D:ZipApart z TI TO i1 i2 l1 l2)
  (hz:IsZip s.heap z TI TO .none) (hTI:IsPair s.heap TI (.ref i1) (.ref i2)) (hTO:IsPair s.heap TO a b)
  (h1:SIt k1 s.heap i1 l1 n1) (h2:SIt k2 s.heap i2 l2 n2) (hl1:SIs k1 s.heap l1 xs) (hl2:SIs k2 s.heap l2 ys) (hend:xs[n1]?=none\/ys[n2]?=none)
  (hE:∀ h' e,(∀ c o,c≠z->c≠TO->c≠i1->c≠i2->s.heap.get? c=some o->h'.get? c=some o)->(∃ o,h'.get? e=some o/\o.cls=.type "StopIteration")->E (.ref e) { s with heap:=h' }) :
  wpAny (model prog w) A (Builtin.«zip.__next__» ⟨[.ref z],[]⟩) Q E s:=by
 show wpAny _ _ (field (.ref z) 2 >>= _) _ _ _;refine BE (Cg hz rfl (x:=.bool false) rfl ?_);show wpAny _ _ (field (.ref z) 3 >>= _) _ _ _;refine BE (Cg hz rfl (x:=.ref TI) rfl ?_);refine BE (CN hTI rfl ?_);show wpAny _ _ (Builtin.SmallTypes.ownedTupleIsFree (.ref z) >>= _) _ _ _;refine BE ?_;unfold Builtin.SmallTypes.ownedTupleIsFree;refine BE (Cg hz rfl (x:=.none) rfl (BG ?_));simp only [if_true];refine BE (wpAny_rule ?_);refine BE (Cg hz rfl (x:=.ref TO) rfl ?_);refine BE (CZ hz (by simp) fun h₁ hz₁ hs₁=>?_)
 replace hz₁:IsZip h₁ z TI TO .ellipsis:=hz₁
 refine BE ?_;simp only [List.zipIdx_cons,List.zipIdx_nil,List.forIn_cons,List.forIn_nil];refine BE (BE (wpAny_onRaise ?_));show wpAny _ _ (Builtin.SmallTypes.nextOf (.ref i1) >>= _) _ _ _;cases hx:xs[n1]? with
 | none =>
  refine BE (iX hh (h1.ext hs₁.extBut D.i1z) (hl1.ext hs₁.extBut D.l1z) hx fun h₂ e hs₂ he=>?_)
  obtain ⟨oe,hoe,hce⟩:=he;have hz₂:IsZip h₂ z TI TO .ellipsis:=hs₂ _ _ D.i1z.symm hz₁;have hez:e≠z:=fun x=>by subst x; rw [hz₂] at hoe; cases hoe; simp at hce
  refine CZ hz₂ (by simp) fun h₃ _ hs₃=>hE h₃ e (fun c o c1 _ c3 _ x=>hs₃.extBut _ _ c1 (hs₂ _ _ c3 (hs₁.extBut _ _ c1 x))) ⟨oe,hs₃.extBut _ _ hez hoe,hce⟩
 | some x =>
  have hy:ys[n2]?=none:=by rcases hend with h | h; rw [hx] at h; cases h; exact h
  refine BE (gf (h1.ext hs₁.extBut D.i1z) (hl1.ext hs₁.extBut D.l1z) hx fun h₂ h1₂ hs₂=>BG ?_)
  have hTO₂:IsPair h₂ TO a b:=hs₂.extBut _ _ D.TOi1 (hs₁.extBut _ _ D.TOz hTO);refine BE (CN hTO₂ rfl ?_);refine BE (wpAny_updateSeq_pair hTO₂ fun h₃ hTO₃ hs₃=>?_)
  refine BE (wpAny_letGo (BG ?_));refine BE (BE (wpAny_onRaise ?_));show wpAny _ _ (Builtin.SmallTypes.nextOf (.ref i2) >>= _) _ _ _;refine BE (iX hh (((h2.ext hs₁.extBut D.i2z).ext hs₂.extBut D.i12.symm).ext hs₃.extBut D.TOi2.symm)
   (((hl2.ext hs₁.extBut D.l2z).ext hs₂.extBut D.l2i1).ext hs₃.extBut D.l2TO) hy fun h₄ e hs₄ he=>?_)
  obtain ⟨oe,hoe,hce⟩:=he;have hz₄:IsZip h₄ z TI TO .ellipsis:=hs₄ _ _ D.i2z.symm (hs₃.extBut _ _ D.TOz.symm (hs₂.extBut _ _ D.i1z.symm hz₁));have hez:e≠z:=fun x=>by subst x; rw [hz₄] at hoe; cases hoe; simp at hce
  refine CZ hz₄ (by simp) fun h₅ _ hs₅=>hE h₅ e (fun c o c1 c2 c3 c4 x=>hs₅.extBut _ _ c1 (hs₄ _ _ c4 (hs₃.extBut _ _ c2 (hs₂.extBut _ _ c3 (hs₁.extBut _ _ c1 x))))) ⟨oe,hs₅.extBut _ _ hez hoe,hce⟩
end
section
variable {X:Cx}{pins:List (Addr × Obj)}{σ:List (Option V)}{H H':Hp}{s:Shared}{h':Heap}
theorem Inv.turnedL {t':Nat}{its:List Addr} (I:Inv X pins σ H s) (k:∀ b o,b ∉ its->s.heap.get? b=some o->h'.get? b=some o) (hf:∀ b∈its,FpOk X pins H b):Inv X pins σ H { s with heap:=h',toks:=t' }:=by
 have nit:∀ b u,H b=some u->b ∉ its:=fun b u e z=>by rw [(hf b z).1] at e; cases e
 refine I.step (g':=s.gens) (d':=s.drawn) (ch:=its) (fun b hb=>?_) (fun b o _ _ hc e _=>k b o hc e) (fun b o _ _ hc e _=>⟨o.slots,k b o hc e⟩) (fun _ _ _ _ n=>n)
  (fun b o hc e=>⟨o,k b o hc e⟩) (fun _ _ e=>e) (fun _ _ _ e=>e) (fun b ps e=>⟨#[],by rw [e]; simp⟩) (fun m hm=>?_) (fun b u e=>?_) I.bare
 ·obtain ⟨f0,f1,f2,f3,f4,f5⟩:=hf b hb
  exact ⟨f3,f1,f4,f5⟩
 ·obtain ⟨o,es,ep,ho,r⟩:=hm
  exact ⟨o,es,ep,k _ o (fun z=>(hf _ z).2.1 rfl) ho,r⟩
 ·refine (I.hok b u e).stay (fun c v hc q=>k c v ?_ q) (fun _ q=>q) fun _ _ q=>q
  rcases hc with z | z
  ·rw [z]; exact nit b u e
  ·exact nit c _ z
theorem Inv.turnedNew {t':Nat}{T:Addr}{o:HO} (I:Inv X pins σ H s) (k:∀ b ob,b ∉ its->s.heap.get? b=some ob->h'.get? b=some ob) (hf:∀ b∈its,FpOk X pins H b)
  (hT:s.heap.objs.size<=T) (new:ObjOk X.prog X.w (upd H T o) h' T o):Inv X pins σ (upd H T o) { s with heap:=h',toks:=t' }:=by
 have nit:∀ b u,H b=some u->b ∉ its:=fun b u e z=>by rw [(hf b z).1] at e; cases e
 have hn:H T=none:=I.hok.fresh hT;have neT:∀ b ob,s.heap.get? b=some ob->b≠T:=fun b ob e=>BS (Cd (BM e) hT)
 have up:∀ b u,H b=some u->upd H T o b=some u:=fun b u e=>by rw [aD (ar e hn)]; exact e
 refine I.step (g':=s.gens) (d':=s.drawn) (ch:=its) (fun b hb=>?_) (fun b ob _ _ hc e _=>k b ob hc e) (fun b ob _ _ hc e _=>⟨ob.slots,k b ob hc e⟩) (fun b ob _ e n=>by rw [aD (neT b ob e)]; exact n)
  (fun b ob hc e=>⟨ob,k b ob hc e⟩) (fun b _ e=>up b _ e) (fun b _ _ e=>up b _ e) (fun b ps e=>⟨#[],by rw [up b _ e]; simp⟩) (fun m hm=>?_) (fun b u e=>?_) I.bare
 ·obtain ⟨f0,f1,f2,f3,f4,f5⟩:=hf b hb
  exact ⟨f3,f1,f4,f5⟩
 ·obtain ⟨ob,es,ep,ho,r⟩:=hm
  exact ⟨ob,es,ep,k _ ob (fun z=>(hf _ z).2.1 rfl) ho,r⟩
 ·by_cases hb:b=T
  ·subst hb; rw [af] at e; cases e; exact new
  ·rw [aD hb] at e
   refine (I.hok b u e).stay (fun c v hc q=>k c v ?_ q) (fun c q=>up c _ q) fun c xs q=>up c _ q
   rcases hc with z | z
   ·rw [z]; exact nit b u e
   ·exact nit c _ z
end
theorem Inv.sis {X:Cx}{pins:List (Addr × Obj)}{σ:St}{H:Hp}{xs:List V} (I:Inv X pins σ H s) (h:Sq k X.K H a xs):∃ its:List Value,Vals xs its/\SIs k s.heap a its.toArray:=by
 cases k with
 | list=>obtain ⟨its,r,p,_⟩:=I.list h; exact ⟨its,r,p.isList⟩
 | tuple=>obtain ⟨its,r,p,_⟩:=I.tuple h; exact ⟨its,r,(show s.heap.IsTuple a its.toArray from p)⟩
theorem Inv.sq_inj {X:Cx}{pins:List (Addr × Obj)}{σ:St}{H:Hp}{s:Shared}{k:SK}{a:Addr}{xs ys:List V} (I:Inv X pins σ H s) (h:Sq k X.K H a xs) (h':Sq k X.K H a ys):xs=ys:=by
 cases k with
 | list=>exact I.list_inj h h'
 | tuple=>exact I.tuple_inj h h'
def Itz (K:PySem.W.Frag) (k1 k2:SK) (a b:Addr):It :=
 ⟨fun i H=>∃ xs ys x y,Sq k1 K H a xs/\Sq k2 K H b ys/\xs[i]?=some x/\ys[i]?=some y,
  fun i H v H'=>∃ T,H T=none/\v=.ref T/\∀ xs ys,Sq k1 K H a xs->Sq k2 K H b ys->∃ x y,xs[i]?=some x/\ys[i]?=some y/\H'=upd H T (.tup [x,y]),
  fun i H=>∃ xs ys,Sq k1 K H a xs/\Sq k2 K H b ys/\(xs.length<=i\/ys.length<=i)⟩
theorem wL {P:Program}{w:World}{K:PySem.W.Frag}{elts:List Expr}{kk:Nat}{tpos:Pos}{k1 k2:SK}{TI TO b:Addr} (D:ZipApart z TI TO i1 i2 a b) :
  Turn P w K (.Tuple elts kk tpos) (Itz K k1 k2 a b) [z,TI,TO,i1,i2] z (fun i h=>IsZip h z TI TO .none/\IsPair h TI (.ref i1) (.ref i2)/\(∃ c d,IsPair h TO c d)/\SIt k1 h i1 a i/\SIt k2 h i2 b i) where
 mem:=by simp
 obj:=fun i h st b hb=>by
  obtain ⟨hz,hTI,⟨c,d,hTO⟩,h1,h2⟩:=st;simp only [BV,Cp,Cq] at hb;rcases hb with rfl | rfl | rfl | rfl | rfl
  ·exact ⟨_,hz,fun v q=>nomatch q⟩
  ·exact ⟨_,hTI,fun v q=>nomatch q⟩
  ·exact ⟨_,hTO,fun v q=>nomatch q⟩
  ·exact h1.obj
  ·exact h2.obj
 keep:=fun i h h' st k=>by
  obtain ⟨hz,hTI,⟨c,d,hTO⟩,h1,h2⟩:=st;exact ⟨k _ (by simp) _ hz,k _ (by simp) _ hTI,⟨c,d,k _ (by simp) _ hTO⟩,h1.at fun o e=>k _ (by simp) o e,h2.at fun o e=>k _ (by simp) o e⟩
 item:=by
  intro X hP hw hK hc i pins s σ H E I hf st hg;subst hP hw hK;obtain ⟨hz,hTI,⟨c,d,hTO⟩,h1,h2⟩:=st;obtain ⟨xs,ys,x,y,q1,q2,hx,hy⟩:=hg;obtain ⟨ix,rx,px⟩:=I.sis q1;obtain ⟨iy,ry,py⟩:=I.sis q2;obtain ⟨u,hu,ru⟩:=rx.get hx;obtain ⟨v,hv,rv⟩:=ry.get hy;have hT:s.TypeIs (.ref z) "zip" := ⟨_,hz,rfl⟩;unfold pyNext;refine BE (wpAny_attempt (C9 (name:=Str.ofString "__next__") hT F.slot_zip_next
   (CW F.slot_zip_next hT F.entry_zip_next
    (wJ D hz hTI hTO h1 h2 px py (x:=u) (y:=v) (by simpa using hu) (by simpa using hv) fun h' a1 a2 a3 a4 a5 a6 a7=>BG ?_) (F.args_zip_next_1 _))))
  refine ⟨_,rfl,wpAny_letOwnedTupleGo_zip (s:={ s with heap:=h' }) a1 fun h'' b1 b2=>?_⟩
  have zlt:z < s.heap.objs.size:=BM hz;have k2:∀ c o,c ∉ [z,TI,TO,i1,i2]->s.heap.get? c=some o->h''.get? c=some o:=fun c o hc e=>by
   simp only [BV,Cp,Cq,not_or] at hc;exact b2.extBut _ _ hc.1 (a7 c o hc.1 hc.2.2.1 hc.2.2.2.1 hc.2.2.2.2 e)
  have hT2:IsPair h'' s.heap.objs.size u v:=b2.extBut _ _ (CJ zlt) a5;refine ⟨.ref s.heap.objs.size,upd H s.heap.objs.size (.tup [x,y]),I.turnedNew (t':=s.toks) (o:=.tup [x,y]) k2 hf (BI _) ⟨by show 2<=sizeLine; decide,[u,v],.cons ru (.cons rv .nil),⟨_,hT2,rfl,_,rfl⟩⟩,rfl,
   ⟨_,I.hok.fresh (BI _),rfl,fun xs' ys' e1 e2=>?_⟩,⟨b1,?_,⟨_,_,b2.extBut _ _ D.TOz a2⟩,a3.at fun o e=>b2.extBut _ _ D.i1z e,a4.at fun o e=>b2.extBut _ _ D.i2z e⟩,fun b hb=>?_⟩
  ·rw [I.sq_inj e1 q1,I.sq_inj e2 q2]
   exact ⟨x,y,hx,hy,rfl⟩
  ·exact b2.extBut _ _ D.TIz (a7 _ _ D.TIz D.TITO D.TIi1 D.TIi2 hTI)
  ·have blt:b < s.heap.objs.size:=by
    simp only [BV,Cp,Cq] at hb;rcases hb with rfl | rfl | rfl | rfl | rfl
    ·exact zlt
    ·exact BM hTI
    ·exact BM hTO
    ·obtain ⟨o,e,_⟩:=h1.obj; exact BM e
    ·obtain ⟨o,e,_⟩:=h2.obj; exact BM e
   rw [aD (BS blt)];exact (hf b hb).1
 done:=by
  intro X hP hw hK hc i pins s σ H E I hf st hg;subst hP hw hK;obtain ⟨hz,hTI,⟨c,d,hTO⟩,h1,h2⟩:=st;obtain ⟨xs,ys,q1,q2,hl⟩:=hg;obtain ⟨ix,rx,px⟩:=I.sis q1;obtain ⟨iy,ry,py⟩:=I.sis q2;have l1:=rx.length;have l2:=ry.length;have hend:ix.toArray[i]?=none\/iy.toArray[i]?=none:=by
   rcases hl with h | h
   ·exact .inl (by simp; omega)
   ·exact .inr (by simp; omega)
  have hT:s.TypeIs (.ref z) "zip" := ⟨_,hz,rfl⟩;unfold pyNext;refine BE (wpAny_attempt (C9 (name:=Str.ofString "__next__") hT F.slot_zip_next
   (CW F.slot_zip_next hT F.entry_zip_next (wK (I.ok.hd hc) D hz hTI hTO h1 h2 px py hend fun h' e hk he=>?_) (F.args_zip_next_1 _))))
  obtain ⟨o,ho,hc'⟩:=he;refine BE (wpAny_isInstance (T := "StopIteration") (b:=true) ⟨o,ho,hc'⟩ isSubtype_stop ?_);refine BG ⟨rfl,I.turnedL (t':=s.toks) (its:=[z,TI,TO,i1,i2]) (fun b o hb e=>?_) hf⟩
  simp only [BV,Cp,Cq,not_or] at hb;exact hk b o hb.1 hb.2.2.1 hb.2.2.2.1 hb.2.2.2.2 e
 self:=fun _ _ _ _ _ st h=>wpAny_pyIter_zip st.1 h
def itObj (k:SK) (l:Addr):Obj:=match k with
 | .list=>{ cls:=.type "list_iterator",data:=.fields #[.ref l,.int 0 0] }
 | .tuple=>{ cls:=.type "tuple_iterator",data:=.fields #[.ref l,.int 0 0] }
theorem iY{it:Addr} (e:h.get? it=some (itObj k l)):SIt k h it l 0:=by
 cases k with
 | list=>exact ⟨_,e,rfl,rfl⟩
 | tuple=>exact ⟨_,e,rfl,rfl⟩
abbrev zS1 (h:Heap) (k1:SK) (l1:Addr):Heap:=h.push (itObj k1 l1)
abbrev zS2 (h:Heap) (k1 k2:SK) (l1 l2:Addr):Heap:=(zS1 h k1 l1).push (itObj k2 l2)
abbrev zS3 (h:Heap) (k1 k2:SK) (l1 l2:Addr):Heap:=(zS2 h k1 k2 l1 l2).push { cls:=.type "tuple",data:=.seq #[.ref h.objs.size,.ref (zS1 h k1 l1).objs.size] }
abbrev zS4 (h:Heap) (k1 k2:SK) (l1 l2:Addr):Heap:=(zS3 h k1 k2 l1 l2).push { cls:=.type "tuple",data:=.seq #[.none,.none] }
abbrev zS5 (h:Heap) (k1 k2:SK) (l1 l2:Addr):Heap:=(zS4 h k1 k2 l1 l2).push { cls:=.type "zip",data:=.fields #[.none,.bool false,.bool false,.ref (zS2 h k1 k2 l1 l2).objs.size,.ref (zS3 h k1 k2 l1 l2).objs.size] }
set_option maxHeartbeats 4000000 in
theorem wM (k1 k2:SK) (l1 l2:Addr) (xs ys:Array Value) :
  Meets (Builtin.«zip.__new__» ⟨[.type "zip",.ref l1,.ref l2],[]⟩) (fun _ R s=>SIs k1 s.heap l1 xs/\SIs k2 s.heap l2 ys /\
   R (.ok (.ret (.ref (zS4 s.heap k1 k2 l1 l2).objs.size))) { s with heap:=zS5 s.heap k1 k2 l1 l2 }):=by
 cases k1 with
 | list =>
  cases k2 with
  | list =>
   exact .of_wp fun prog w A R s h=>by
    obtain ⟨hp,g,d,tk,os⟩:=s; obtain ⟨hl1,hl2,h⟩:=h;have hsub:=sub_zip;have hL1:Heap.IsList (Shared.heap ⟨hp,g,d,tk,os⟩) l1 xs:=hl1;have hL2:Heap.IsList (Shared.heap ⟨hp.push { cls:=.type "list_iterator",data:=.fields #[.ref l1,.int 0 0] },g,d,tk,os⟩) l2 ys:=Heap.IsList.push hl2 _
    wp_walk using CL hL1,CL hL2
    exact ⟨_,rfl,h⟩
  | tuple =>
   exact .of_wp fun prog w A R s h=>by
    obtain ⟨hp,g,d,tk,os⟩:=s; obtain ⟨hl1,hl2,h⟩:=h;have hsub:=sub_zip;have hL1:Heap.IsList (Shared.heap ⟨hp,g,d,tk,os⟩) l1 xs:=hl1;have hL2:Heap.IsTuple (Shared.heap ⟨hp.push { cls:=.type "list_iterator",data:=.fields #[.ref l1,.int 0 0] },g,d,tk,os⟩) l2 ys:=SIs.at (k:=.tuple) hl2 fun o e=>BK _ e
    wp_walk using CL hL1,Di hL2
    exact ⟨_,rfl,h⟩
 | tuple =>
  cases k2 with
  | list =>
   exact .of_wp fun prog w A R s h=>by
    obtain ⟨hp,g,d,tk,os⟩:=s; obtain ⟨hl1,hl2,h⟩:=h;have hsub:=sub_zip;have hL1:Heap.IsTuple (Shared.heap ⟨hp,g,d,tk,os⟩) l1 xs:=hl1;have hL2:Heap.IsList (Shared.heap ⟨hp.push { cls:=.type "tuple_iterator",data:=.fields #[.ref l1,.int 0 0] },g,d,tk,os⟩) l2 ys:=SIs.at (k:=.list) hl2 fun o e=>BK _ e
    wp_walk using Di hL1,CL hL2
    exact ⟨_,rfl,h⟩
  | tuple =>
   exact .of_wp fun prog w A R s h=>by
    obtain ⟨hp,g,d,tk,os⟩:=s; obtain ⟨hl1,hl2,h⟩:=h;have hsub:=sub_zip;have hL1:Heap.IsTuple (Shared.heap ⟨hp,g,d,tk,os⟩) l1 xs:=hl1;have hL2:Heap.IsTuple (Shared.heap ⟨hp.push { cls:=.type "tuple_iterator",data:=.fields #[.ref l1,.int 0 0] },g,d,tk,os⟩) l2 ys:=SIs.at (k:=.tuple) hl2 fun o e=>BK _ e
    wp_walk using Di hL1,Di hL2
    exact ⟨_,rfl,h⟩
section
variable {prog:Program}{w:World}{A:Around}{E:Value->Shared->Prop}{s:Shared}
theorem wO{Q:Value->Shared->Prop} (hl1:SIs k1 s.heap l1 xs) (hl2:SIs k2 s.heap l2 ys)
  (h:∀ h',IsZip h' (s.heap.objs.size + 4) (s.heap.objs.size + 2) (s.heap.objs.size + 3) .none->IsPair h' (s.heap.objs.size + 2) (.ref s.heap.objs.size) (.ref (s.heap.objs.size + 1)) ->
   IsPair h' (s.heap.objs.size + 3) .none .none->SIt k1 h' s.heap.objs.size l1 0->SIt k2 h' (s.heap.objs.size + 1) l2 0 ->
   (∀ c o,s.heap.get? c=some o->h'.get? c=some o)->Q (.ref (s.heap.objs.size + 4)) { s with heap:=h' }) :
  wpAny (model prog w) A (call (.type "zip") [.ref l1,.ref l2]) Q E s:=by
 refine callType_new F.called_zip (by decide) (F.typeCall_zip_2 _ _) (F.newCall_zip_2 _ _) (fun obj=>F.args_object_init_3 obj _ _) F.entry_zip_new
  (wM k1 k2 l1 l2 xs ys) ⟨hl1,hl2,?_⟩
 have z1:(zS1 s.heap k1 l1).objs.size=s.heap.objs.size + 1:=CF ..;have z2:(zS2 s.heap k1 k2 l1 l2).objs.size=s.heap.objs.size + 2:=by rw [CF,z1]
 have z3:(zS3 s.heap k1 k2 l1 l2).objs.size=s.heap.objs.size + 3:=by rw [CF,z2]
 have z4:(zS4 s.heap k1 k2 l1 l2).objs.size=s.heap.objs.size + 4:=by rw [CF,z3]
 have r1:(itObj k1 l1).isFreed=false:=by cases k1 <;> rfl
 have r2:(itObj k2 l2).isFreed=false:=by cases k2 <;> rfl
 have g5:(zS5 s.heap k1 k2 l1 l2).get? (zS4 s.heap k1 k2 l1 l2).objs.size=some _:=B3 _ rfl;have g4:(zS5 s.heap k1 k2 l1 l2).get? (zS3 s.heap k1 k2 l1 l2).objs.size=some _:=BK _ (B3 _ rfl);have g3:(zS5 s.heap k1 k2 l1 l2).get? (zS2 s.heap k1 k2 l1 l2).objs.size=some _:=BK _ (BK _ (B3 _ rfl));have g2:(zS5 s.heap k1 k2 l1 l2).get? (zS1 s.heap k1 l1).objs.size=some _:=BK _ (BK _ (BK _ (B3 _ r2)));have g1:(zS5 s.heap k1 k2 l1 l2).get? s.heap.objs.size=some _:=BK _ (BK _ (BK _ (BK _ (B3 _ r1))));show _/\_;rw [z2,z3,z4] at g5;rw [z1,z2] at g3;rw [z3] at g4;rw [z1] at g2;rw [z4];exact ⟨⟨_,g5,rfl⟩,h _ g5 g3 g4 (iY g1) (iY g2) fun c o x =>
  BK _ (BK _ (BK _ (BK _ (BK _ x))))⟩
end
section
variable {X:Cx}{elts:List Expr}{kk:Nat}{tpos:Pos}
def iZip (K:PySem.W.Frag) (k1 k2:SK) (ta:TA):TI:=fun σ H R=>ta σ H fun vs H1=>∃ a b,vs=[.ref a,.ref b]/\(∃ xs,Sq k1 K H1 a xs)/\(∃ ys,Sq k2 K H1 b ys)/\R (Itz K k1 k2 a b) H1
theorem wQ (k1 k2:SK) {a b:Expr}{ta:TA}{p pos:Pos} (hg:Gl X "zip") (hm:X.mg "zip" = none) (ha:PA X [a,b] ta) (hs:starEach [a,b] X.env=[(false,eval a X.env),(false,eval b X.env)]:=by rfl) (hs2:starEach [b] X.env=[(false,eval b X.env)]:=by rfl) :
  PI X (.Tuple elts kk tpos) (.Call (.Name "zip" p) [a,b] [] pos) (iZip X.K k1 k2 ta):=by
 intro pins s σ H R I h;refine Call_ (dz I hg hm boot_zip (DA (thn (ha pos pins s σ H _ I h) fun us s1 ⟨vs,H1,I1,r1,q1⟩=>?_) (by rw [hs,hs2]) (by rw [hs2]; rfl)))
 obtain ⟨a',b',e,⟨xs,qx⟩,⟨ys,qy⟩,q⟩:=q1;subst e;obtain ⟨u,v,rfl,ru,rv⟩:=vals2 r1;cases ru;cases rv;obtain ⟨ix,rx,px⟩:=I1.sis qx;obtain ⟨iy,ry,py⟩:=I1.sis qy;refine wO px py fun h' b1 b2 b3 b4 b5 b6=>wpAny_pyIter_zip (s:={ s1 with heap:=h' }) b1 ?_
 have nn:∀ b,s1.heap.objs.size<=b->FpOk X pins H1 b:=fun b hb=>I1.fpOk hb (I1.hok.fresh hb)
 refine ⟨_,[s1.heap.objs.size + 4,s1.heap.objs.size + 2,s1.heap.objs.size + 3,s1.heap.objs.size,s1.heap.objs.size + 1],_,_,H1,rfl,I1.kept (t':=s1.toks) b6,wL (k1:=k1) (k2:=k2) (zipApart_new px.lt py.lt),⟨b1,b2,⟨_,_,b3⟩,b4,b5⟩,fun b hb=>?_,q⟩
 simp only [BV,Cp,Cq] at hb;rcases hb with rfl | rfl | rfl | rfl | rfl
 ·exact nn _ (Nat.le_add_right _ _)
 ·exact nn _ (Nat.le_add_right _ _)
 ·exact nn _ (Nat.le_add_right _ _)
 ·exact nn _ (BI _)
 ·exact nn _ (Nat.le_add_right _ _)
theorem wR {K:PySem.W.Frag}{k1 k2:SK}{a b:Addr}{xs ys:List V}{g:TG}{tb:TS}{D:Ends}{σ:St} (Pv:Nat->St->Hp->Prop) (h0:Pv 0 σ H)
  (hl:∀ i σ H,i<=min xs.length ys.length->Pv i σ H->Sq k1 K H a xs/\Sq k2 K H b ys)
  (hs:∀ i x y σ H T,xs[i]?=some x->ys[i]?=some y->Pv i σ H->H T=none->g (.ref T) σ (upd H T (.tup [x,y])) fun σ2 H2=>tb { D with nx:=Pv (i + 1),ct:=Pv (i + 1),bk:=D.nx } σ2 H2)
  (hd:∀ σ H,Pv (min xs.length ys.length) σ H->D.nx σ H):Loop (Itz K k1 k2 a b) g tb D σ H:=by
 refine ⟨fun i m σ H=>m=min xs.length ys.length - i/\i<=min xs.length ys.length/\Pv i σ H,⟨min xs.length ys.length,by simp,Ck _,h0⟩,?_⟩
 rintro i m σ H ⟨rfl,hi,p⟩;obtain ⟨q1,q2⟩:=hl i σ H hi p
 by_cases hlt:i < min xs.length ys.length
 ·have l1:i < xs.length:=by omega
  have l2:i < ys.length:=by omega
  refine .inr ⟨⟨xs,ys,xs[i],ys[i],q1,q2,by simp [l1],by simp [l2]⟩,Pv (i + 1),fun σ' H' p'=>⟨min xs.length ys.length - (i + 1),by omega,rfl,hlt,p'⟩,fun x H' y=>?_⟩
  obtain ⟨T,hT,rfl,y⟩:=y;obtain ⟨u,v,e1,e2,rfl⟩:=y xs ys q1 q2;exact hs i u v σ H T e1 e2 p hT
 ·have e:i=min xs.length ys.length:=by omega
  refine .inl ⟨⟨xs,ys,q1,q2,by omega⟩,?_⟩
  subst e;exact hd σ H p
end
end L2

namespace L2
open PySem PySem.Spec PyProof.Rows PySem.Builtin PySem.Builtin.Str
variable{i:Nat}{x:Str}{pos p:Pos}{v:V}{op:CmpOp}{c e l a tg:Expr}{X:Cx}{es:List Expr}{te:TE}{g:TG}{body:List Stmt}
section
variable {X:Cx}
def rIsT (K:PySem.W.Frag):List V->Hp->VK->Prop:=fun xs H Q=>∃ x T t b,xs=[x,.ty T]/\TyOf K H x t/\PySem.W.kitOne K t (.type T)=some b/\Q (.bl b) H
theorem bI:CallR X (.builtin "isinstance") (rIsT X.K):=by
 intro pins s σ H xs us Q I r h;obtain ⟨x,T,t,b,rfl,ty,e,q⟩:=h;obtain ⟨u,v,rfl,ru,rv⟩:=vals2 r;cases rv;exact mw I ru ty e fun tk=>⟨.bl b,H,I.tok _,rfl,q⟩
example (K:PySem.W.Frag):PySem.W.kitOne K (.type "int") (.type "int")=some true:=rfl
example (K:PySem.W.Frag):PySem.W.kitOne K (.type "str") (.type "int")=some false:=rfl
example (K:PySem.W.Frag):PySem.W.kitOne K (.type "tuple") (.type "int")=some false:=rfl
example (K:PySem.W.Frag):PySem.W.kitOne K (.type "bool") (.type "int")=some true:=rfl
end
structure Pr (p:Prop):Prop where
 h:p
section
variable {X:Cx}
theorem ng (hN:X.N[i]?=some x) (hv:Vis X.env.scope x) (hd:(x == ("__debug__" : Str))=false:=by decide) (hcd:(x == ("__classdict__" : Str))=false:=by decide):Pr (PE X (.Name x pos) (tVar i)):=⟨tG hN hv hd hcd⟩
theorem ag {i j pos}:Pr (PE X (.Constant (.int i) j pos) (tC (.int i))):=⟨tH⟩
theorem bh {b j pos}:Pr (PE X (.Constant (.bool b) j pos) (tC (.bl b))):=⟨tJ⟩
theorem dN {j pos}:Pr (PE X (.Constant .none j pos) (tC .non)):=⟨tM⟩
theorem aM {x j pos}:Pr (PE X (.Constant (.str x) j pos) (tC (.str x))):=⟨tP⟩
theorem nh{v:V}{u:Value} (hg:Gl X x) (hm:X.mg x=some u) (r:RelV v u) (hd:(x == ("__debug__" : Str))=false:=by decide):Pr (PE X (.Name x pos) (tC v)):=⟨lQ hg hm r hd⟩
theorem bw{v:V}{u:Value} (hg:Gl X x) (hm:X.mg x=none) (hv:bootBuiltins x=some u) (r:RelV v u) (hn:x ≠ "__name__" := by decide) (hd:(x == ("__debug__" : Str))=false:=by decide):Pr (PE X (.Name x pos) (tC v)):=⟨tQ hg hm hv r hn hd⟩
end
section
variable {X:Cx}{a b c:Expr}{ta tb tc:TE}{pos:Pos}
theorem av {op:Operator}{r:R2} (ho:OpR X (binaryOp op) r) (ha:Pr (PE X a ta)) (hb:Pr (PE X b tb)):Pr (PE X (.BinOp a op b pos) (tOp r ta tb)):=⟨uF ho ha.h hb.h⟩
theorem iZ {op:UnaryOp}{r:V->Hp->VK->Prop} (ho:UnR X (unaryOp op) r) (ha:Pr (PE X a ta)):Pr (PE X (.UnaryOp op a pos) (tUn r ta)):=⟨uG ho ha.h⟩
theorem cS{r:R2} (ho:OpR X (compareOp op) r) (ha:Pr (PE X a ta)) (hb:Pr (PE X b tb)) (hm:behindInMarks op b=false):Pr (PE X (.Compare a [op] [b] pos) (tOp r ta tb)):=⟨uL ho ha.h hb.h hm⟩
theorem wU {op':CmpOp}{r r':R2} (ho:OpR X (compareOp op) r) (ho':OpR X (compareOp op') r') (ha:Pr (PE X a ta)) (hb:Pr (PE X b tb)) (hc:Pr (PE X c tc)) (hm:lastMarks [op,op'] [b,c]=false:=by with_unfolding_all rfl):Pr (PE X (.Compare a [op,op'] [b,c] pos) (tChain r r' ta tb tc)):=⟨uN ho ho' ha.h hb.h hc.h hm⟩
end
section
variable {X:Cx}
variable {a b:Expr}{ta tb:TE}{pos:Pos}
variable {tA tB':TT}{rest:List Expr}
theorem bY (ha:Pr (PE X a ta)) (hb:Pr (PE X (.BoolOp .And (b :: rest) pos) tb)):Pr (PE X (.BoolOp .And (a :: b :: rest) pos) (tAndV ta tb)):=⟨t8 ha.h hb.h⟩
end
section
variable {X:Cx}
variable {a b:Expr}{ta tb:TE}{pos:Pos}
variable {tA tB':TT}{rest:List Expr}
theorem cJ {op}{t:TE} (h:Pr (PE X a t)):Pr (PE X (.BoolOp op [a] pos) t):=⟨t4 h.h⟩
end
section
variable {X:Cx}
variable {a b:Expr}{ta tb:TE}{pos:Pos}
variable {tA tB':TT}{rest:List Expr}
theorem ni (ha:Pr (PE X a ta)):Pr (PE X (.UnaryOp .Not a pos) (tNotV ta)):=⟨ua ha.h⟩
end
section
variable {X:Cx}
variable {a b:Expr}{ta tb:TE}{pos:Pos}
variable {tA tB':TT}{rest:List Expr}
theorem nu (hc:Pr (PT X c tA)) (ha:Pr (PE X a ta)) (hb:Pr (PE X b tb)):Pr (PE X (.IfExp c a b pos) (tIf tA ta tb)):=⟨ub hc.h ha.h hb.h⟩
end
section
variable {X:Cx}{e:Expr}{es:List Expr}{te:TE}{t:TA}{pos:Pos}
theorem aN {x1} (h:Pr (PA X es t)):Pr (PE X (.Tuple es x1 pos) (tTup t)):=⟨vd h.h⟩
theorem bZ (h:Pr (PA X es t)):Pr (PE X (.List es pos) (tLst t)):=⟨ve h.h⟩
end
section
variable {X:Cx}{e:Expr}{te:TE}{lo hi:Option Expr}{tl th:TO}{pos p2:Pos}
theorem i0 {r:V->Option Int->Option Int->Hp->VK->Prop} (hr:SlR X r) (he:Pr (PE X e te)) (hl:Pr (PO X lo tl)) (hu:Pr (PO X hi th)):Pr (PE X (.Subscript e (.Slice lo hi none p2) pos) (tSl r te tl th)):=⟨vB hr he.h hl.h hu.h⟩
end
section
variable {X:Cx}{a b:Expr}{ta tb:TE}{pos:Pos}
theorem ak {r:R2} (hr:IxR X r) (ha:Pr (PE X a ta)) (hb:Pr (PE X b tb)) (hs:PlainIx b):Pr (PE X (.Subscript a b pos) (tOp r ta tb)):=⟨vC hr ha.h hb.h hs⟩
end
section
variable {X:Cx}{o e value:Expr}{f:Str}{pos pos' tpos:Pos}{ta tv:TE}
theorem aH (he:Pr (PE X e ta)) (hb:attributeBase e f X.env (eval e X.env)=eval e X.env):Pr (PE X (.Attribute e f pos) (tFld X.K ta f)):=⟨mr he.h hb⟩
end
section
variable {X:Cx}{CX:CXT}{k:Nat}{ps:List Str}{sp:Sp}{E:XK}{x:Str}{p pos:Pos}{e:Expr}{es:List Expr}{t:TA}
theorem ao (D:DefOk X.prog X.w X.K X.mg X.base CX k x ps sp) (hr:Room k X.A) (hg:Gl X x) (hx:Passes CX X E) (ha:Pr (PA X (e :: es) t)) (hdb:(x == ("__debug__" : Str))=false:=by decide) (he:starEach (e :: es) X.env=(false,eval e X.env) :: starEach es X.env:=by rfl) (hpl:(backTo pos (starEach es X.env)).any (·.1)=false:=by rfl):Pr (PE X (.Call (.Name x p) (e :: es) [] pos) (tCall sp [] E t)):=⟨wy D hr hg hx ha.h hdb he hpl⟩
end
section
variable {X:Cx}{x:Str}{p pos:Pos}{e:Expr}{es:List Expr}{t:TA}{id T:String}{r:List V->Hp->VK->Prop}
theorem aq (hc:CallR X (.builtin id) r) (hg:Gl X x) (hm:X.mg x=none) (hv:bootBuiltins x=some (.builtin id)) (ha:Pr (PA X (e :: es) t)) (hn:x ≠ "__name__" := by decide) (hdb:(x == ("__debug__" : Str))=false:=by decide) (he:starEach (e :: es) X.env=(false,eval e X.env) :: starEach es X.env:=by rfl) (hpl:(backTo pos (starEach es X.env)).any (·.1)=false:=by rfl):Pr (PE X (.Call (.Name x p) (e :: es) [] pos) (tCB r t)):=⟨vn hc hg hm hv ha.h hn hdb he hpl⟩
theorem aZ (hc:CallR X (.type T) r) (hg:Gl X x) (hm:X.mg x=none) (hv:bootBuiltins x=some (.type T)) (ha:Pr (PA X (e :: es) t)) (hn:x ≠ "__name__" := by decide) (hdb:(x == ("__debug__" : Str))=false:=by decide) (he:starEach (e :: es) X.env=(false,eval e X.env) :: starEach es X.env:=by rfl) (hpl:(backTo pos (starEach es X.env)).any (·.1)=false:=by rfl):Pr (PE X (.Call (.Name x p) (e :: es) [] pos) (tCB r t)):=⟨vo hc hg hm hv ha.h hn hdb he hpl⟩
end
section
variable {X:Cx}{a b:Expr}{ta tb:TE}{pos:Pos}
variable {o e:Expr}{es:List Expr}{to:TE}{t:TA}{name:Str}{apos cpos:Pos}{T id:String}{r:V->List V->Hp->VK->Prop}
theorem bM (pa:PlainAttrs T) (slot:Slot T name id) (hty:typeOf (.builtin id)=pure (.type "method_descriptor")) (hm:MtR X id r) (ho:Pr (PE X o to)) (ha:Pr (PA X (e :: es) t)) (hbase:attributeBase o name X.env (eval o X.env)=eval o X.env:=by rfl) (hfew:((backTo cpos (starEach (e :: es) X.env)).all (fun x=>!x.1) && (backToKw cpos (keywordEach [] X.env)).all (fun x=>x.1.isSome)
   && decide ((e :: es).length + ([]:List Keyword).length + (if ([]:List Keyword).isEmpty then 0 else 1) < 30))=true:=by rfl) (hline:(apos.endLine == cpos.line)=true:=by rfl) (hs:starEach (e :: es) X.env=(false,eval e X.env) :: starEach es X.env:=by rfl) (hplain:(backTo cpos (starEach es X.env)).any (·.1)=false:=by rfl):Pr (PE X (.Call (.Attribute o name apos) (e :: es) [] cpos) (tBM X.K T r to t)):=⟨vN pa slot hty hm ho.h ha.h hbase hfew hline hs hplain⟩
end
section
variable {X:Cx}{a b c:Expr}{ta tb tc:TE}{pos:Pos}
theorem ax{r:R2} (ho:OpR X (compareOp op) r) (ha:Pr (PE X a ta)) (hb:Pr (PE X b tb)) (hm:behindInMarks op b=false):Pr (PT X (.Compare a [op] [b] pos) (tTest (tOp r ta tb))):=⟨uM ho ha.h hb.h hm⟩
end
section
variable {X:Cx}
variable {a b:Expr}{ta tb:TE}{pos:Pos}
variable {tA tB':TT}{rest:List Expr}
theorem aX (ha:Pr (PT X a tA)):Pr (PT X (.UnaryOp .Not a pos) (tNot tA)):=⟨tZ ha.h⟩
end
section
variable {X:Cx}
variable {a b:Expr}{ta tb:TE}{pos:Pos}
theorem aO{t:TE} (h:Pr (PE X e t)) (he:∀ whole,isTrue e X.env whole=(do let v <- whole; standAt e.pos; holding [v] (truthy v)):=by intro _; rfl):Pr (PT X e (tB t)):=⟨tU h.h he⟩
end
section
theorem bz{t:TT} (h:Pr (PW X e t)):Pr (PT X e t):=⟨PW.pt h.h⟩
end
section
variable {X:Cx}
variable {a b:Expr}{ta tb:TE}{pos:Pos}
variable {tA tB':TT}{rest:List Expr}
theorem i3 (ha:Pr (PT X a tA)) (hb:Pr (PW X (.BoolOp .And (b :: rest) pos) tB')):Pr (PW X (.BoolOp .And (a :: b :: rest) pos) (tAnd tA tB')):=⟨tX ha.h hb.h⟩
end
section
variable {X:Cx}
variable {a b:Expr}{ta tb:TE}{pos:Pos}
variable {tA tB':TT}{rest:List Expr}
theorem i6 (ha:Pr (PT X a tA)):Pr (PW X (.BoolOp .And [a] pos) tA):=⟨tV ha.h⟩
end
section
variable {X:Cx}
variable {a b:Expr}{ta tb:TE}{pos:Pos}
variable {tA tB':TT}{rest:List Expr}
theorem bg (ha:Pr (PT X a tA)) (hb:Pr (PW X (.BoolOp .Or (b :: rest) pos) tB')):Pr (PW X (.BoolOp .Or (a :: b :: rest) pos) (tOr tA tB')):=⟨tY ha.h hb.h⟩
end
section
variable {X:Cx}
variable {a b:Expr}{ta tb:TE}{pos:Pos}
variable {tA tB':TT}{rest:List Expr}
theorem bJ (ha:Pr (PT X a tA)):Pr (PW X (.BoolOp .Or [a] pos) tA):=⟨tW ha.h⟩
end
section
variable {X:Cx}{e:Expr}{es:List Expr}{te:TE}{t:TA}{pos:Pos}
theorem ab  : Pr (PA X [] tNil):=⟨vb⟩
theorem aa (ha:Pr (PE X e te)) (hr:Pr (PA X es t)) (hs:starEach (e :: es) X.env=(false,eval e X.env) :: starEach es X.env:=by rfl):Pr (PA X (e :: es) (tCons te t)):=⟨vc ha.h hr.h hs⟩
end
section
variable {X:Cx}{e:Expr}{te:TE}{lo hi:Option Expr}{tl th:TO}{pos p2:Pos}
theorem i7  : Pr (PO X none tNoPart):=⟨vz⟩
theorem i8 (h:Pr (PE X e te)):Pr (PO X (some e) (tPart te)):=⟨vA h.h⟩
end
section
variable {X:Cx}{tg:Expr}
theorem bj{tl:TE} (hl:Pr (PE X l tl)):Pr (PI X tg l (iList X.K tl)):=⟨lV hl.h⟩
theorem cU{tl:TE} (hl:Pr (PE X l tl)):Pr (PI X tg l (iTup X.K tl)):=⟨lX hl.h⟩
theorem cV{ta:TA} (hg:Gl X "range") (hm:X.mg "range" = none) (ha:Pr (PA X [a] ta)) (hs:starEach [a] X.env=[(false,eval a X.env)]:=by rfl):Pr (PI X tg (.Call (.Name "range" p) [a] [] pos) (iRng1 ta)):=⟨uA hg hm ha.h hs⟩
end
section
variable {X:Cx}{elts:List Expr}{kk:Nat}{tpos:Pos}
theorem i9 (k1 k2:SK) {b:Expr}{ta:TA} (hg:Gl X "zip") (hm:X.mg "zip" = none) (ha:Pr (PA X [a,b] ta)) (hs:starEach [a,b] X.env=[(false,eval a X.env),(false,eval b X.env)]:=by rfl) (hs2:starEach [b] X.env=[(false,eval b X.env)]:=by rfl):Pr (PI X (.Tuple elts kk tpos) (.Call (.Name "zip" p) [a,b] [] pos) (iZip X.K k1 k2 ta)):=⟨wQ k1 k2 hg hm ha.h hs hs2⟩
end
section
variable {X:Cx}{pos:Pos}
theorem aj {i:Nat} (hN:X.N.Nodup) (hi:X.N[i]?=some x) (hx:Loc X.env.scope x) (hf:X.fn x=true\/X.env.scope.names.lookup x=some .local:=by first | exact .inl rfl | exact .inr rfl | assumption):Pr (PG X (.Name x pos) (gName i)):=⟨ui hN hi hx hf⟩
theorem ba  : Pr (PGs X [] gNil):=⟨uj⟩
theorem aw{t:TG}{u:TGs} (h1:Pr (PG X e t)) (h2:Pr (PGs X es u)) (hs:(assignEach (e :: es) X.env).map (·.2)=assign e X.env :: (assignEach es X.env).map (·.2):=by rfl):Pr (PGs X (e :: es) (gCons t u)):=⟨uk h1.h h2.h hs⟩
theorem cN{k:Nat}{t:TGs}{n:Nat} (hc:X.calm=true) (h:Pr (PGs X es t)) (hn:(assignEach es X.env).length=n:=by rfl) (hst:(assignEach es X.env).findIdx? (·.1)=none:=by rfl):Pr (PG X (.Tuple es k pos) (gTup X.K n t)):=⟨lU hc h.h hn hst⟩
theorem wV {o i:Expr}{to ti:TE}{t:TSet} (ho:Pr (PE X o to)) (hi:Pr (PE X i ti)) (hs:PSet X t) (ha:∀ v,assign (.Subscript o i pos) X.env v=(do
   let ov <- holding [v] (eval o X.env)
   let iv <- holding [v,ov] (eval i X.env)
   standAt pos
   holding [v,ov,iv] (setItem ov iv v)
   release [v,ov,iv] []):=by intro _; rfl):Pr (PG X (.Subscript o i pos) (gSub to ti t)):=⟨um ho.h hi.h hs ha⟩
end
section
variable {X:Cx}{st:Stmt}{rest:List Stmt}{t u:TS}{e:Expr}{te:TE}{pos:Pos}
theorem au (he:Pr (PE X e te)):Pr (PS X (.Return (some e) pos) (tRet te)):=⟨uf he.h⟩
end
section
variable {X:Cx}{pos:Pos}
theorem ay {i:Nat}{pos':Pos} (hN:X.N.Nodup) (hi:X.N[i]?=some x) (hx:Loc X.env.scope x) (he:Pr (PE X e te)) (hs:swapsWith e (some (.Name x pos')) pos.line X.env=pure false:=by rfl) (hf:X.fn x=true\/X.env.scope.names.lookup x=some .local:=by first | exact .inl rfl | exact .inr rfl | assumption):Pr (PS X (.Assign [.Name x pos'] e pos) (tAsg te (gName i))):=⟨uq hN hi hx he.h hs hf⟩
theorem eS (he:Pr (PE X e te)) (hg:Pr (PG X tg g)) (hs:swapsWithSole [tg] e pos.line X.env=pure false:=by rfl) (hw:swappedStores [tg] e X.env=pure none:=by rfl) (h1:(assignEach [tg] X.env).map (·.2)=[assign tg X.env]:=by rfl):Pr (PS X (.Assign [tg] e pos) (tAsg te g)):=⟨uo he.h hg.h hs hw h1⟩
end
section
variable {X:Cx}{st:Stmt}{rest:List Stmt}{t u:TS}{e:Expr}{te:TE}{pos:Pos}
theorem aC{a b:List Stmt}{tc:TT} (hc:Pr (PT X c tc)) (ha:Pr (PSs X a t)) (hb:Pr (PSs X b u)):Pr (PS X (.If c a b pos) (tIfS tc t u)):=⟨ug hc.h ha.h hb.h⟩
end
section
theorem bK{iter:Expr}{wi:TI}{tb:TS} (hp:PassesOwn (model X.prog X.w) X.A X.env X.xe) (hc:X.calm=true) (hi:Pr (PI X tg iter wi)) (hg:Pr (PG X tg g)) (hb:Pr (PSs X body tb)) (hs:∀ x,foldedSetIterable iter X.env x=pure x:=by intro _; rfl):Pr (PS X (.For tg iter body [] pos) (tLoop wi g tb)):=⟨wA hp hc hi.h hg.h hb.h hs⟩
end
section
variable {X:Cx}{pos:Pos}
theorem nv{tc:TT}{tb:TS} (hp:PassesOwn (model X.prog X.w) X.A X.env X.xe) (hc:Pr (PT X c tc)) (hb:Pr (PSs X body tb)):Pr (PS X (.While c body [] pos) (tWhile tc tb)):=⟨ur hp hc.h hb.h⟩
end
section
variable {X:Cx}{st:Stmt}{rest:List Stmt}{t u:TS}{e:Expr}{te:TE}{pos:Pos}
theorem bp (he:Pr (PE X e te)) (hs:swapsWith e none pos.line X.env=pure false:=by rfl):Pr (PS X (.Expr e pos) (tDrop te)):=⟨ue he.h hs⟩
theorem aE  : Pr (PSs X [] tNext):=⟨uc⟩
theorem ai (h1:Pr (PS X st t)):Pr (PSs X [st] t):=⟨ud h1.h⟩
theorem ah (h1:Pr (PS X st t)) (h2:Pr (PSs X rest u)):Pr (PSs X (st :: rest) (tSeq t u)):=⟨lT h1.h h2.h⟩
end
section
theorem gg{st:Stmt}{rest:List Stmt}{t u:TS} (h1:Pr (PS X st t)) (h2:Pr (PSs X rest u)):Pr (PSs X (st :: rest) (tCut t u)):=⟨wB h1.h h2.h⟩
end
section
variable {X:Cx}{o e value:Expr}{f:Str}{pos pos' tpos:Pos}{ta tv:TE}
theorem bL (ha:Pr (PE X o ta)) (hv:Pr (PE X value tv)) (hs:swapsWith value (some (.Attribute o f pos')) pos.line X.env=pure false):Pr (PS X (.Assign [.Attribute o f pos'] value pos) (sFld X.K ta tv f)):=⟨uY ha.h hv.h hs⟩
end
end L2

namespace L2
open PySem PySem.Spec PyProof.Rows
def relab (sc outer:Scope):Scope :=
 { sc with names:=sc.names.map fun (n,k)=>if (k == .free && outer.kind == .function && outer.names.lookup n == some .cell) then (n,.cell) else (n,k) }
structure CompOk (sc outer:Scope) (own:List Str) (N:List Str) (fr:List Nat) (N':List Str):Prop where
 kind:sc.kind=.function
 nocell:∀ y∈sc.names,y.2≠.cell
 loc:∀ y∈sc.names,y.2=.local->sc.names.lookup y.1=some .local
 fre:∀ y∈sc.names,y.2=.free->outer.names.lookup y.1=some .cell\/outer.names.lookup y.1=some .free
 nd:N'.Nodup
 all:N'.map some=own.map some++fr.map fun j=>N[j]?
 frk:∀ j∈fr,∀ x,N[j]?=some x->sc.names.lookup x=some .free/\(outer.names.lookup x=some .cell\/outer.names.lookup x=some .free)
def cst (n:Nat) (fr:List Nat) (σ:St):St:=List.replicate n none++fr.map fun j=>(σ[j]?).join
theorem nA {env:Env}{sc:Scope} (h:∀ y∈sc.names,y.2=.free->∃ c,env.cells.lookup y.1=some c) :
  ∃ cl,closureFor sc env=pure cl/\(∀ x c,cl.lookup x=some c->env.cells.lookup x=some c)/\∀ y∈sc.names,y.2=.free->∃ c,cl.lookup y.1=some c:=by
 have key:∀ (l:List (Str × NameKind)) (cs:List (Str × Addr)),(∀ y∈l,y.2=.free->∃ c,env.cells.lookup y.1=some c)->(∀ x c,cs.lookup x=some c->env.cells.lookup x=some c) ->
   ∃ cl,(forIn l cs fun x r=>if (x.2 == NameKind.free)=true then do let a <- cellOf env x.1; pure (ForInStep.yield ((x.1,a) :: r)) else pure (ForInStep.yield r))=(pure cl:Sem _)/\(∀ x c,cl.lookup x=some c->env.cells.lookup x=some c) /\
    (∀ x,(∃ c,cs.lookup x=some c)->∃ c,cl.lookup x=some c)/\∀ y∈l,y.2=.free->∃ c,cl.lookup y.1=some c:=by
  intro l
  induction l with
  | nil=>intro cs _ h2; exact ⟨cs,rfl,h2,fun _ z=>z,fun y hy=>nomatch hy⟩
  | cons y l ih =>
   intro cs h1 h2;obtain ⟨n,k⟩:=y
   by_cases hk:k=.free
   ·subst hk
    obtain ⟨c,hc⟩:=h1 (n,.free) CC rfl;obtain ⟨cl,e,a,b,d⟩:=ih ((n,c) :: cs) (fun y hy=>h1 y (CD _ hy)) (fun x c' hx=>by
     rw [Dd] at hx
     split at hx
     ·rename_i q
      have:x=n:=by simpa using q
      cases hx; subst this; exact hc
     ·exact h2 x c' hx)
    refine ⟨cl,?_,a,fun x ⟨c',hx⟩=>b x ?_,fun y hy hf=>?_⟩
    ·rw [List.forIn_cons]
     have e1:cellOf env n=pure c:=by unfold cellOf; rw [hc]
     simp only [beq_self_eq_true,if_true,e1,pure_bind];exact e
    ·rw [Dd]
     split
     ·exact ⟨_,rfl⟩
     ·exact ⟨c',hx⟩
    ·rcases BV.mp hy with rfl | hy
     ·exact b n ⟨c,by simp [Dd]⟩
     ·exact d y hy hf
   ·obtain ⟨cl,e,a,b,d⟩:=ih cs (fun y hy=>h1 y (CD _ hy)) h2
    refine ⟨cl,?_,a,b,fun y hy hf=>?_⟩
    ·rw [List.forIn_cons]
     have hb:(k == NameKind.free)=false:=by simpa using hk
     simp only [hb,Ct,Cc,pure_bind];exact e
    ·rcases BV.mp hy with rfl | hy
     ·exact absurd hf hk
     ·exact d y hy hf
 obtain ⟨cl,e,a,_,d⟩:=key sc.names [] h (fun x c hx=>by simp at hx)
 refine ⟨cl,?_,a,d⟩;unfold closureFor;simp only [e,pure_bind]
def cxC (X:Cx) (sc:Scope) (cl:List (Str × Addr)) (N':List Str) (C:Addr) (s:Shared) (H:Hp) (fp:List Addr):Cx :=
 { X with N:=N',s₀:=s,H₀:=H,env:=compEnvC sc cl C X.env,outer:=X.stack,stack:=X.stack,ex:=fp,fn:=fun _=>false,pn:=[],xe:=fun _ _=>False }
theorem gh {outer:Scope}:∀ {names:List (Str × NameKind)}{x:Str}{k:NameKind},
  (names.map fun (n,k)=>if (k == NameKind.free && outer.kind == .function && outer.names.lookup n == some .cell) then (n,NameKind.cell) else (n,k)).lookup x=some k ->
   names.lookup x=some k\/(names.lookup x=some .free/\k=.cell)
 | [],x,k,h=>by simp at h
 | (n,k') :: r,x,k,h=>by
  rw [B4] at h
  by_cases hc:(k' == NameKind.free && outer.kind == .function && outer.names.lookup n == some .cell)=true
  ·simp only [hc,if_true] at h
   rw [Dd] at h ⊢;cases hx:x == n with
   | true =>
    rw [hx] at h;simp only [Option.some.injEq] at h;have hf:k'=.free:=by
     have:=(Bool.and_eq_true_iff.mp (Bool.and_eq_true_iff.mp hc).1).1
     simpa using this
    exact .inr ⟨by simp [hf],h.symm⟩
   | false=>rw [hx] at h; exact gh h
  ·simp only [hc,Ct,Cc] at h
   rw [Dd] at h ⊢;cases hx:x == n with
   | true=>rw [hx] at h; exact .inl (by simpa using h)
   | false=>rw [hx] at h; exact gh h
theorem ja {outer:Scope}:∀ {names:List (Str × NameKind)}{x:Str},names.lookup x=some .free ->
  (names.map fun (n,k)=>if (k == NameKind.free && outer.kind == .function && outer.names.lookup n == some .cell) then (n,NameKind.cell) else (n,k)).lookup x=some .cell \/
  (names.map fun (n,k)=>if (k == NameKind.free && outer.kind == .function && outer.names.lookup n == some .cell) then (n,NameKind.cell) else (n,k)).lookup x=some .free
 | [],x,h=>by simp at h
 | (n,k') :: r,x,h=>by
  rw [Dd] at h;rw [B4]
  by_cases hc:(k' == NameKind.free && outer.kind == .function && outer.names.lookup n == some .cell)=true
  ·simp only [hc,if_true]
   rw [Dd];cases hx:x == n with
   | true=>exact .inl rfl
   | false=>rw [hx] at h; exact ja h
  ·simp only [hc,Ct,Cc]
   rw [Dd];cases hx:x == n with
   | true=>rw [hx] at h; exact .inr h
   | false=>rw [hx] at h; exact ja h
theorem gi {α:Type}:∀ {l:List (Str × α)}{x:Str}{k:α},l.lookup x=some k->(x,k)∈l
 | [],_,_,h=>by simp at h
 | (n,k') :: r,x,k,h=>by
  rw [Dd] at h;cases hx:x == n with
  | true =>
   rw [hx] at h;have e:x=n:=by simpa using hx
   have e2:k'=k:=by simpa using h
   rw [e,e2]; exact CC
  | false=>rw [hx] at h; exact CD _ (gi h)
section
variable {X:Cx}{pins:List (Addr × Obj)}{σ:St}{H:Hp}{s:Shared}{sc:Scope}{own:List Str}{fr:List Nat}{N':List Str}{cl:List (Str × Addr)}
theorem wW (I:Inv X pins σ H s) (cs:CompOk sc X.env.scope own X.N fr N') (h1:∀ x c,cl.lookup x=some c->X.env.cells.lookup x=some c) (h2:∀ y∈sc.names,y.2=.free->∃ c,cl.lookup y.1=some c)
  {fp:List Addr} (hf:∀ b∈fp,FpOk X pins H b/\∃ o,s.heap.get? b=some o) {h':Heap}{t':Nat}{C D:Addr}{o:Obj} (hC:s.heap.objs.size<=C) (hD:s.heap.objs.size<=D) (hDC:D≠C)
  (k:∀ b u,s.heap.get? b=some u->h'.get? b=some u) (hn:h'.Ns C fun _=>none) (hDo:h'.get? D=some o) (hd:∀ v,o.data≠.cell v) :
  Inv (cxC X sc cl N' C s H fp) [(D,o)] (cst own.length fr σ) H { s with heap:=h',toks:=t' }:=by
 have lt:∀ b u,s.heap.get? b=some u->b < s.heap.objs.size:=fun b u e=>BM e
 have fpC:∀ b∈fp,b≠C:=fun b hb z=>by
  obtain ⟨_,o,e⟩:=hf b hb;have:=lt b o e;rw [z] at this;exact absurd (Cd this hC) (C4 _)
 have lenN:N'.length=own.length + fr.length:=by
  have:=Cs List.length cs.all
  simpa using this
 refine ⟨⟨I.ok.mod,cs.kind,I.ok.glob,I.ok.blt,hC,fun x y c e1 e2=>I.ok.inj x y c (h1 x c e1) (h1 y c e2),fun x hx=>?_,fun x c z=>absurd z B9,I.ok.hd,I.ok.frames,.inl rfl,fun b hb=>⟨fpC b hb,fun x c e=>(hf b hb).1.2.2.2.2.1 x c (h1 x c e)⟩,
   I.bs,B7 I.ok.bsz I.sz,fun b o' e hb=>?_,fun b hb z=>?_,I.stack,I.stkFree⟩,
  rfl,I.bare,Un.kept k,⟨_,hn,fun i x v e1 e2 e3=>?_⟩,fun x c e=>?_,I.hok.fresh hC,fun x c e=>I.freeC x c (h1 x c e),fun p hp=>?_,I.hok.kept k,?_⟩
 ·have hx':(relab sc X.env.scope).names.lookup x=some .cell\/(relab sc X.env.scope).names.lookup x=some .free:=hx
  have hfree:sc.names.lookup x=some .free:=by
   rcases hx' with z | z
   ·rcases gh z with q | q
    ·exact absurd rfl (cs.nocell _ (gi q))
    ·exact q.1
   ·rcases gh z with q | q
    ·exact q
    ·exact q.1
  exact h2 (x,.free) (gi hfree) rfl
 ·have q:=(hf b hb).1.2.2.2.1
  rcases q with q | q
  ·exact I.ok.noex b o' e q
  ·exact absurd (Cd (BM (I.ok.bs b o' e).1) q) (C4 _)
 ·have z':b∈frs X.stack:=z
  rcases BV.mp (I.stkSub b z') with q | q
  ·exact (hf b hb).1.2.1 q
  ·exact (hf b hb).1.2.2.1 q
 ·-- a name of the block at its entry is one of the def's
  have hi:own.length<=i:=by
   by_cases hi:i < own.length
   ·have e2':(cst own.length fr σ)[i]?=some none:=by
     unfold cst;rw [CM (by simpa using hi),List.getElem?_replicate,if_pos hi]
    rw [e2'] at e2; cases e2
   ·omega
  have e2':(fr.map fun j=>(σ[j]?).join)[i - own.length]?=some (some v):=by
   unfold cst at e2
   rwa [CV (by simpa using hi),DB] at e2
  rw [BN] at e2';have e1a:(N'.map some)[i]?=some (some x):=by
   have e1:N'[i]?=some x:=e1;rw [BN,e1]; rfl
  rw [cs.all,CV (by simpa using hi),BF,BN] at e1a
  cases ej:fr[i - own.length]? with
  | none=>rw [ej] at e2'; cases e2'
  | some j =>
   rw [ej] at e2' e1a;have hj:j∈fr:=BO ej;have nj:X.N[j]?=some x:=by simpa using e1a
   have sj:σ[j]?=some (some v):=by
    have:(σ[j]?).join=some v:=by simpa using e2'
    cases q:σ[j]? with
    | none=>rw [q] at this; cases this
    | some y=>rw [q] at this; simp at this; rw [this]
   obtain ⟨kf,ko⟩:=cs.frk j hj x nj;obtain ⟨m,hm,hl⟩:=I.loc;obtain ⟨u,r,l⟩:=hl j x v nj sj (.inr ko);refine ⟨u,r,.inr ?_⟩;have lk:X.env.kindOf x=some .cell\/X.env.kindOf x=some .free:=ko;rcases l with ⟨z,_⟩ | ⟨_,c,ec,ic⟩
   ·rcases lk with q | q <;> rw [z] at q <;> cases q
   ·obtain ⟨c',hc'⟩:=h2 (x,.free) (gi kf) rfl
    have:c'=c:=by
     have:=h1 x c' hc';rw [ec] at this; exact (Ca this).symm
    subst this;refine ⟨ja kf,c',hc',?_⟩;obtain ⟨oc,hoc,hcd⟩:=ic;exact ⟨oc,k c' oc hoc,hcd⟩
 ·obtain ⟨v,oc,hoc,hcd⟩:=I.cell x c (h1 x c e)
  exact ⟨v,oc,k c oc hoc,hcd⟩
 ·have hp':p∈[(D,o)]:=hp
  have e:p=(D,o):=by simpa using hp'
  subst e;refine ⟨hDo,I.hok.fresh hD,hDC,fun z=>?_,hd⟩
  have z':D∈frs X.stack:=z;obtain ⟨_,o2,ho2,_⟩:=I.stack.mem z';exact absurd (Cd (BM ho2) hD) (C4 _)
 ·show (cst own.length fr σ).length=N'.length
  unfold cst;rw [BU,DB,BF,lenN]
theorem wX (I:Inv X pins σ H s) {fp:List Addr} (hf:∀ b∈fp,FpOk X pins H b/\∃ o,s.heap.get? b=some o) {C D:Addr}{its:List Value}{ys:List V}{n:Nat}{σ':St}{H':Hp}{s':Shared}
  (hD:s.heap.objs.size<=D) (J:Inv (cxC X sc cl N' C s H fp) [(D,{ cls:=.type "list",data:=.seq its.toArray n })] σ' H' s') (r:Vals ys its) (hz:ys.length<=sizeLine):Inv X pins σ (upd H' D (.lst ys)) s':=by
 obtain ⟨hDo,hDn,hDC,hDf,hDc⟩:=J.pin (D,{ cls:=.type "list",data:=.seq its.toArray n }) (Cw _ CC);have u:Un (frs X.stack) fp H H' s.heap s'.heap:=J.base;have os:s'.os=s.os:=J.os;have lt:∀ b ob,s.heap.get? b=some ob->b≠D:=fun b ob e z=>by
  have:=BM e;rw [z] at this;exact absurd (Cd this hD) (C4 _)
 refine I.call' (ch:=fp) os ⟨u.keep,u.slot,fun b ob e n hx=>?_,u.there,fun b xs e=>?_,fun b ob x e=>?_,fun b ps e=>?_⟩ ?_ J.bare (fun b hb=>?_)
 ·rw [aD (lt b ob e)]; exact u.free b ob e n hx
 ·have:=u.tups b xs e
  rw [aD (ar this hDn)]; exact this
 ·have:=u.frzs b ob x e
  rw [aD (ar this hDn)]; exact this
 ·obtain ⟨m,q⟩:=u.tbls b ps e
  exact ⟨m,by rw [aD (ar q hDn)]; exact q⟩
 ·intro b ob e
  by_cases hb:b=D
  ·subst hb
   rw [af] at e; cases e;exact ⟨hz,its,n,r,hDo⟩
  ·rw [aD hb] at e
   exact (J.hok b ob e).stay (fun c v _ q=>q) (fun c q=>by rw [aD (ar q hDn)]; exact q) fun c xs q=>by rw [aD (ar q hDn)]; exact q
 ·obtain ⟨_,f1,_,f3,f4,f5⟩:=(hf b hb).1
  exact ⟨f3,f1,f4,f5⟩
end
def PIf (X:Cx) (ifs:List Expr) (t:TT):Prop :=
 ∀ (pins:List (Addr × Obj)) (s:Shared) (σ:St) (H:Hp) (Q:Bool->Hp->Prop),Inv X pins σ H s->t σ H Q ->
  wpAny (model X.prog X.w) X.A (forIn ifs true fun c r=>if r=true then do let ok <- isTrue c X.env (eval c X.env); pure (ForInStep.yield ok) else pure (ForInStep.yield r)) (TP X pins σ Q) X.xe s
def tYes:TT:=fun _ H Q=>Q true H
theorem wY {X:Cx}:PIf X [] tYes:=fun _ _ _ H _ I h=>wpAny_tests_nil ⟨H,I,h⟩
theorem wZ {X:Cx}{c:Expr}{t:TT} (h:PT X c t):PIf X [c] t:=fun pins s σ H Q I q=>wpAny_tests_one (h pins s σ H Q I q)
structure Comp (J:It) (g:TG) (tt:TT) (te:TE) (Q:List V->Hp->Prop) (σ:St) (H:Hp):Prop where
 ex:∃ W:Nat->Nat->List V->St->Hp->Prop,(∃ m,W 0 m [] σ H)/\∀ i m ys σ H,W i m ys σ H->ys.length < sizeLine /\
  ((J.stop i H/\Q ys H)\/(J.go i H/\∃ N:List V->St->Hp->Prop,(∀ ys' σ' H',N ys' σ' H'->∃ m',m' < m/\W (i + 1) m' ys' σ' H') /\
    ∀ x H',J.yld i H x H'->g x σ H' fun σ2 H2=>tt σ2 H2 fun b H3=>if b=true then te σ2 H3 fun y H4=>N (ys++[y]) σ2 H4 else N ys σ2 H3))
section
variable {prog:Program}{w:World}{A:Around}{R:Result->Shared->Prop}{s:Shared}
theorem w4 {elt target iter:Expr}{ifs:List Expr}{scope:Scope}{pos:Pos}{it acc:Value}{env:Env} (I:Nat->Shared->Prop)
  (turn:∀ n s,I n s->wpAny (model prog w) A (pyNext it) (fun r s₁=>match r with
   | none=>R (.ok .next) s₁
   | some v=>wpAny (model prog w) A (letOwnedTupleGo target it v) (fun _ s₁=>wpAny (model prog w) A (assign target env v) (fun _ s₂ =>
     wpAny (model prog w) A (forIn ifs true fun c r=>if r=true then do let ok <- isTrue c env (eval c env); pure (ForInStep.yield ok) else pure (ForInStep.yield r)) (fun ok s₃ =>
      if ok=true then wpAny (model prog w) A (eval elt env) (fun x s₄ =>
       wpAny (model prog w) A (call (.builtin "list.append") [acc,x]) (fun _ s₅=>∃ m,m < n/\I m s₅) (fun _ _=>False) s₄) (fun _ _=>False) s₃
      else ∃ m,m < n/\I m s₃) (fun _ _=>False) s₂) (fun _ _=>False) s₁) (fun _ _=>False) s₁) (fun _ _=>False) s)
  (n:Nat) (h:I n s):codeAny (model prog w) A (.compLoop (.ListComp elt [⟨target,iter,ifs,0⟩] scope pos) 0 it acc env) R s:=by
 refine codeAny_loop rfl I (fun n s hI=>?_) n h
 show wpAny _ A ((compTurn (.ListComp elt [⟨target,iter,ifs,0⟩] scope pos) 0 it acc env).onRaise (fun x=>do noteFrame x env; theTreesLotGoes x)) _ _ s
 refine wpAny_noted (wpAny_noRaise ?_);rw [compTurn_list];refine BE (wpAny_standAt (BE (Cf (turn n s hI) (fun r s₁ h₁=>?_) fun _ _ h'=>h')))
 cases r with
 | none=>exact BG h₁
 | some v =>
  refine BE (Cf h₁ (fun _ s₁ h₁=>?_) fun _ _ h'=>h')
  refine BE (Cf h₁ (fun _ s₂ h₂=>BE (Cf h₂ (fun ok s₃ h₃=>?_) fun _ _ h'=>h')) fun _ _ h'=>h')
  cases ok with
  | false=>exact BG ⟨rfl,h₃⟩
  | true =>
   exact BE (BE (Cf h₃ (fun x s₄ h₄=>BE (Cf h₄ (fun _ s₅ h₅=>BG (BG ⟨rfl,h₅⟩)) fun _ _ h'=>h')) fun _ _ h'=>h'))
end
end L2

namespace L2
open PySem PySem.Spec PyProof.Rows
variable{K:PySem.W.Frag}{fp:List Addr}{tn:Nat->Heap->Prop}{σ:St}{H:Hp}{g:TG}{tt:TT}{te:TE}{Q:List V->Hp->Prop}{a:Addr}
structure TurnX (G:Cx->Prop) (P:Program) (w:World) (K:PySem.W.Frag) (tg:Expr) (J:It) (fp:List Addr) (it:Addr) (tn:Nat->Heap->Prop):Prop where
 obj:∀ i h,tn i h->∀ b∈fp,∃ o,h.get? b=some o/\∀ v,o.data≠.cell v
 keep:∀ i h h',tn i h->(∀ b∈fp,∀ o,h.get? b=some o->h'.get? b=some o)->tn i h'
 item:∀ (X:Cx),X.prog=P->X.w=w->X.K=K->G X->∀ (i:Nat) (pins:List (Addr × Obj)) (s:Shared) (σ:St) (H:Hp) (E:Value->Shared->Prop),Inv X pins σ H s->(∀ b∈fp,FpOk X pins H b)->tn i s.heap->J.go i H ->
  wpAny (model P w) X.A (pyNext (.ref it)) (fun r s1=>∃ u,r=some u /\
   wpAny (model P w) X.A (letOwnedTupleGo tg (.ref it) u) (fun _ s2=>∃ x H',Inv X pins σ H' s2/\RelV x u/\J.yld i H x H'/\tn (i + 1) s2.heap/\∀ b∈fp,H' b=none) E s1) E s
 done:∀ (X:Cx),X.prog=P->X.w=w->X.K=K->G X->∀ (i:Nat) (pins:List (Addr × Obj)) (s:Shared) (σ:St) (H:Hp) (E:Value->Shared->Prop),Inv X pins σ H s->(∀ b∈fp,FpOk X pins H b)->tn i s.heap->J.stop i H ->
  wpAny (model P w) X.A (pyNext (.ref it)) (fun r s1=>r=none/\Inv X pins σ H s1) E s
 self:∀ (A:Around) (i:Nat) (s:Shared) (Q:Value->Shared->Prop) (E:Value->Shared->Prop),tn i s.heap->Q (.ref it) s->wpAny (model P w) A (pyIter (.ref it)) Q E s
theorem Turn.x {P:Program}{w:World}{tg:Expr}{J:It}{it:Addr} (T:Turn P w K tg J fp it tn):TurnX (fun X=>X.calm=true) P w K tg J fp it tn:=⟨T.obj,T.keep,T.item,T.done,T.self⟩
section
variable {X:Cx}{sc:Scope}{own:List Str}{fr:List Nat}{N':List Str}{tg elt iter:Expr}{ifs:List Expr}{g:TG}{tt:TT}{te:TE}{wi:TI}{pos:Pos}
theorem nC {G:Cx->Prop}{pins:List (Addr × Obj)}{σ:St}{H:Hp}{s2:Shared}{it:Addr}{fp:List Addr}{tn:Nat->Heap->Prop}{J:It}{QQ:List V->Hp->Prop}{cl:List (Str × Addr)}{RR:Value->Addr->Result->Shared->Prop}{E:Value->Shared->Prop}
  (I2:Inv X pins σ H s2) (hc:∀ cl C s H fp,G (cxC X sc cl N' C s H fp)) (T:TurnX G X.prog X.w X.K tg J fp it tn) (st:tn 0 s2.heap) (f2:∀ b∈fp,FpOk X pins H b) (cs:CompOk sc X.env.scope own X.N fr N')
  (h1:∀ x c,cl.lookup x=some c->X.env.cells.lookup x=some c) (h2:∀ y∈sc.names,y.2=.free->∃ c,cl.lookup y.1=some c)
  (hg:∀ cl C s H fp,PG (cxC X sc cl N' C s H fp) tg g) (hif:∀ cl C s H fp,PIf (cxC X sc cl N' C s H fp) ifs tt) (he:∀ cl C s H fp,PE (cxC X sc cl N' C s H fp) elt te)
  (KK:Comp J g tt te QQ (cst own.length fr σ) H)
  (hRR:∀ D C m H' ys s',s2.heap.objs.size<=C->s'.heap.Ns C m->H' D=none->(upd H' D (.lst ys)) C=none->QQ ys H'->Inv X pins σ (upd H' D (.lst ys)) s'->RR (.ref D) C (.ok .next) s') :
  wpAny (model X.prog X.w) X.A (newList []) (fun acc s₃=>wpAny (model X.prog X.w) X.A (newFunctionEnv sc X.env.globals cl [] X.env.qual none .none (some X.env)) (fun cenv s₄ =>
   codeAny (model X.prog X.w) X.A (.compStart (.ListComp elt [⟨tg,iter,ifs,0⟩] sc pos) 0 (.ref it) acc { cenv with scope:=relabel sc X.env }) (RR acc cenv.locals) s₄) E s₃) E s2:=by
 refine C5 (wpAny_newFunctionEnv cs.nocell (by intro y hy; simp at hy) (fun h₁ hns₁ hsb₁=>?_) cs.kind)
 dsimp only at hns₁ hsb₁ ⊢
 generalize hH2:s2.heap.push { cls:=.type "list",dict:=none,data:=.seq ([]:List Value).toArray }=H2 at hns₁ hsb₁ ⊢;have hC:H2.objs.size=s2.heap.objs.size + 1:=by rw [<- hH2,CF]
 have hDC:s2.heap.objs.size≠H2.objs.size:=by rw [hC]; exact BS (Nat.lt_succ_self _)
 have hCle:s2.heap.objs.size<=H2.objs.size:=by rw [hC]; exact Nat.le_succ _
 have below:∀ b,b < s2.heap.objs.size->b≠H2.objs.size/\b≠s2.heap.objs.size:=fun b hb=>⟨by rw [hC]; exact BS (Nat.lt_succ_of_lt hb),BS hb⟩
 have old:∀ b o,s2.heap.get? b=some o->h₁.get? b=some o:=fun b o e=>hsb₁.extBut b o (below b (BM e)).1 (BK _ (hH2 ▸ BK _ e))
 have hacc:h₁.get? s2.heap.objs.size=some { cls:=.type "list",data:=.seq ([]:List Value).toArray 0 }:=hsb₁.extBut _ _ hDC (BK _ (hH2 ▸ B3 _ rfl));have fpo:∀ b∈fp,FpOk X pins H b/\∃ o,s2.heap.get? b=some o:=fun b hb=>⟨f2 b hb,let ⟨o,e,_⟩:=T.obj 0 _ st b hb; ⟨o,e⟩⟩
 have st1:tn 0 h₁:=T.keep _ _ _ st fun b hb o e=>old b o e
 have hns:h₁.Ns H2.objs.size fun _=>none:=by simpa using hns₁
 obtain ⟨W,⟨m0,w0⟩,turn⟩:=KK.ex;have loop:∀ s₃:Shared,s₃={ s2 with heap:=h₁,toks:=s2.toks + ([]:List (Str × Value)).length } ->
   codeAny (model X.prog X.w) X.A (.compLoop (.ListComp elt [⟨tg,iter,ifs,0⟩] sc pos) 0 (.ref it) (.ref s2.heap.objs.size) (compEnvC sc cl H2.objs.size X.env)) (RR (.ref s2.heap.objs.size) H2.objs.size) s₃:=by
  rintro s₃ rfl;have J0:Inv (cxC X sc cl N' H2.objs.size s2 H fp) [(s2.heap.objs.size,{ cls:=.type "list",data:=.seq ([]:List Value).toArray 0 })] (cst own.length fr σ) H { s2 with heap:=h₁,toks:=s2.toks + ([]:List (Str × Value)).length } :=
   wW I2 cs h1 h2 fpo hCle (BI _) hDC old hns hacc (fun v z=>by cases z)
  have stat:∀ {pl:List (Addr × Obj)}{H':Hp},(∀ p∈pl,p.1=s2.heap.objs.size)->(∀ b∈fp,H' b=none)->∀ b∈fp,FpOk (cxC X sc cl N' H2.objs.size s2 H fp) pl H' b:=fun {pl H'} hpl hn b hb=>by
   obtain ⟨f,ob,e⟩:=fpo b hb;refine ⟨hn b hb,(below b (BM e)).1,fun z=>?_,.inl hb,fun x c ec=>f.2.2.2.2.1 x c (h1 x c ec),fun p hp=>?_⟩
   ·have z':b∈frs X.stack:=z
    rcases BV.mp (I2.stkSub b z') with q | q
    ·exact f.2.1 q
    ·exact f.2.2.1 q
   ·have hp':p∈pl:=hp
    rw [hpl p hp'];exact B1 (below b (BM e)).2
  have one:∀ (o:Obj),∀ p∈[(s2.heap.objs.size,o)],p.1=s2.heap.objs.size:=fun o p hp=>by
   have:p=(s2.heap.objs.size,o):=by simpa using hp
   rw [this]
  refine w4 (env:=compEnvC sc cl H2.objs.size X.env) (fun n s'=>∃ i ys its k σ' H',Inv (cxC X sc cl N' H2.objs.size s2 H fp) [(s2.heap.objs.size,{ cls:=.type "list",data:=.seq (its:List Value).toArray k })] σ' H' s'/\tn i s'.heap/\(∀ b∈fp,H' b=none)/\Vals ys its/\W i n ys σ' H')
   ?_ m0 ⟨0,[],[],0,_,H,J0,st1,fun b hb=>(f2 b hb).1,.nil,w0⟩
  rintro n s3 ⟨i,ys,its,k,σ3,H3,I3,st3,fr3,rv,w3⟩;obtain ⟨hlen,alt⟩:=turn i n ys σ3 H3 w3;rcases alt with ⟨stop,qn⟩ | ⟨go,N,hN,step⟩
  ·refine Cf (T.done (cxC X sc cl N' H2.objs.size s2 H fp) rfl rfl rfl (hc _ _ _ _ _) i _ s3 σ3 H3 (fun _ _=>False) I3 (stat (one _) fr3) st3 stop) (fun r s4 ⟨hr,I4⟩=>?_) fun _ _ z=>z
   subst hr;obtain ⟨m,hm,_⟩:=I4.loc;have hDn:H3 s2.heap.objs.size=none:=(I4.pin (s2.heap.objs.size,{ cls:=.type "list",data:=.seq its.toArray k }) (Cw _ CC)).2.1;exact hRR _ _ m H3 ys s4 hCle hm hDn (by rw [aD (B1 hDC)]; exact I4.free) qn (wX I2 fpo (BI _) I4 rv (Ce hlen))
  ·refine Cf (T.item (cxC X sc cl N' H2.objs.size s2 H fp) rfl rfl rfl (hc _ _ _ _ _) i _ s3 σ3 H3 (fun _ _=>False) I3 (stat (one _) fr3) st3 go) (fun r s4 ⟨u,hr,h4⟩=>?_) fun _ _ z=>z
   subst hr;refine Cf h4 (fun _ s5 ⟨x,H5,I5,r5,y5,st5,fr5⟩=>?_) fun _ _ z=>z
   have I5':=I5.pinned (stat (one _) fr5) (T.obj _ _ st5);refine Cf (hg cl H2.objs.size s2 H fp _ s5 σ3 H5 x u _ I5' r5 (step x H5 y5)) (fun _ s6 ⟨σ6,H6,I6,q6⟩=>?_) fun _ _ z=>z
   refine Cf (hif cl H2.objs.size s2 H fp _ s6 σ6 H6 _ I6 q6) (fun b s7 ⟨H7,I7,q7⟩=>?_) fun _ _ z=>z
   have fps:∀ {σ8:St}{H8:Hp}{s8:Shared},Inv (cxC X sc cl N' H2.objs.size s2 H fp) ([(s2.heap.objs.size,{ cls:=.type "list",data:=.seq its.toArray k })]++pinsAt fp s5.heap) σ8 H8 s8 ->
     tn (i + 1) s8.heap/\∀ b∈fp,H8 b=none:=fun {σ8 H8 s8} I8=>by
    refine ⟨T.keep _ _ _ st5 fun b hb o e=>(I8.pin (b,o) (Cw _ (Cw _ (fX hb e)))).1,fun b hb=>?_⟩
    obtain ⟨o,e,d⟩:=T.obj _ _ st5 b hb;exact (I8.pin (b,o) (Cw _ (Cw _ (fX hb e)))).2.1
   cases b with
   | false =>
    obtain ⟨m',hm,w7⟩:=hN ys σ6 H7 q7;exact ⟨m',hm,i + 1,ys,its,k,σ6,H7,I7.unpinned,(fps I7).1,(fps I7).2,rv,w7⟩
   | true =>
    have q7':te σ6 H7 fun y H4=>N (ys++[y]) σ6 H4:=q7
    refine Cf (he cl H2.objs.size s2 H fp _ s7 σ6 H7 _ I7 q7') (fun uy s8 ⟨y,H8,I8,r8,n8⟩=>?_) fun _ _ z=>z
    obtain ⟨m',hm,w8⟩:=hN _ _ _ n8;obtain ⟨hDo,hDn,hDL,hDf,_⟩:=I8.pin (s2.heap.objs.size,{ cls:=.type "list",data:=.seq its.toArray k }) (Cw _ (Du _ CC));have hys:its.toArray.size<=sizeLine:=by rw [BZ,<- rv.length]; exact Ce hlen
    refine wpAny_list_append_plain (hsz:=hys) (⟨k,hDo⟩:s8.heap.PlainList s2.heap.objs.size its.toArray) fun h9 ⟨k',hl9⟩ hs9=>?_
    have hDp:∀ p∈(cxC X sc cl N' H2.objs.size s2 H fp).pn++pinsAt fp s5.heap,p.1≠s2.heap.objs.size:=fun p hp=>by
     have hp':p∈pinsAt fp s5.heap:=by
      have hp2:p∈([]:List (Addr × Obj))++pinsAt fp s5.heap:=hp
      simpa using hp2
     obtain ⟨hb,_⟩:=lY hp';obtain ⟨_,ob,e⟩:=fpo p.1 hb;exact (below p.1 (BM e)).2
    have I8':Inv (cxC X sc cl N' H2.objs.size s2 H fp) (pinsAt fp s5.heap) σ6 H8 s8:=I8.pins_of fun p hp=>I8.pin p (Cw _ (Cw _ hp))
    have I9:Inv (cxC X sc cl N' H2.objs.size s2 H fp) (pinsAt fp s5.heap) σ6 H8 { s8 with heap:=h9 }:=I8'.turned (t':=s8.toks) (it:=s2.heap.objs.size) (fun b o hb e=>(hs9.2 b hb).trans e) hDn hDL (.inr (BI _))
     (fun x c e z=>by
      obtain ⟨v,q⟩:=I2.cell x c (h1 x c e);have:=q.lt;rw [z] at this;exact absurd this (C4 _)) hDp
    have key:=fps I8;refine ⟨m',hm,i + 1,ys++[y],its++[uy],k',σ6,H8,I9.pins_of fun p hp=>?_,T.keep _ _ _ key.1 fun b hb o e=>?_,key.2,rv.append (.cons r8 .nil),w8⟩
    ·have e:p=(s2.heap.objs.size,{ cls:=.type "list",data:=.seq (its++[uy]).toArray k' }):=by simpa using hp
     subst e;refine ⟨?_,hDn,hDL,hDf,fun v z=>by cases z⟩
     have:(its++[uy]).toArray=its.toArray.push uy:=by simp
     rw [this]; exact hl9
    ·obtain ⟨_,ob,e2⟩:=fpo b hb
     exact (hs9.2 b (below b (BM e2)).2).trans e
 exact codeAny_compStart_list (loop _ rfl) (Cf (T.self X.A 0 _ (fun it' s'=>it'=.ref it/\s'={ s2 with heap:=h₁,toks:=s2.toks + ([]:List (Str × Value)).length }) _ st1 ⟨rfl,rfl⟩) (fun it' s' ⟨e1,e2⟩=>by subst e1 e2; exact loop _ rfl) fun _ _ z=>z)
def tComp (n:Nat) (fr:List Nat) (wi:TI) (g:TG) (tt:TT) (te:TE):TE:=fun σ H Q=>wi σ H fun J H1=>Comp J g tt te (fun ys H2=>∀ D,H2 D=none->Q (.ref D) (upd H2 D (.lst ys))) (cst n fr σ) H1
theorem xa (hc:X.calm=true) (cs:CompOk sc X.env.scope own X.N fr N') (hi:PI X tg iter wi) (hg:∀ cl C s H fp,PG (cxC X sc cl N' C s H fp) tg g) (hif:∀ cl C s H fp,PIf (cxC X sc cl N' C s H fp) ifs tt)
  (he:∀ cl C s H fp,PE (cxC X sc cl N' C s H fp) elt te) (hs:∀ x,foldedSetIterable iter X.env x=pure x:=by intro _; rfl):PE X (.ListComp elt [⟨tg,iter,ifs,0⟩] sc pos) (tComp own.length fr wi g tt te):=by
 intro pins s σ H Q I h;obtain ⟨cl,ecl,h1,h2⟩:=nA (env:=X.env) (sc:=sc) fun y hy hf=>I.ok.has y.1 (cs.fre y hy hf)
 rw [eval_ListComp];refine wpAny_comprehension_free (use:=none) rfl hs ecl cs.kind cs.loc (thn (hi pins s σ H _ I h) fun v s1 q1=>thn q1 fun itv s2 q2=>?_)
 obtain ⟨it,fp,tn,J,H2,rfl,I2,T,st,f2,KK⟩:=q2;refine nC (RR:=fun acc C=>compPost (model X.prog X.w) X.A X.xe none (EP X pins σ Q) acc C) I2 (fun _ _ _ _ _=>hc) T.x st f2 cs h1 h2 hg hif he KK fun D C m H' ys s' hC hn hD hCn hq I'=>?_
 refine ⟨m,hn,fun h' hs'=>⟨.ref D,upd H' D (.lst ys),?_,rfl,hq D hD⟩⟩
 obtain ⟨f0,f1,f2,f3,f4,f5⟩:=I2.fpOk hC hCn;exact I'.turned (t':=s'.toks) (it:=C) (fun b o hb e=>(hs'.2 b hb).trans e) f0 (B1 (B1 f1)) f3 f4 f5
def tSetC (i n:Nat) (fr:List Nat) (wi:TI) (g:TG) (tt:TT) (te:TE):TS:=fun D σ H=>wi σ H fun J H1=>Comp J g tt te (fun ys H2=>∀ p,H2 p=none->D.nx (σ.set i (some (.ref p))) (upd H2 p (.lst ys))) (cst n fr σ) H1
theorem xb {i:Nat}{y:Str}{py spos:Pos} (hN:X.N.Nodup) (hy:X.N[i]?=some y) (hx:Loc X.env.scope y) (hc:X.calm=true) (cs:CompOk sc X.env.scope own X.N fr N') (hi:PI X tg iter wi)
  (hg:∀ cl C s H fp,PG (cxC X sc cl N' C s H fp) tg g) (hif:∀ cl C s H fp,PIf (cxC X sc cl N' C s H fp) ifs tt) (he:∀ cl C s H fp,PE (cxC X sc cl N' C s H fp) elt te)
  (hsw:swapsWith (.ListComp elt [⟨tg,iter,ifs,0⟩] sc pos) (some (.Name y py)) spos.line X.env=pure true) (hfn:X.fn y=true\/X.env.scope.names.lookup y=some .local:=by first | exact .inl rfl | exact .inr rfl | assumption) (hs:∀ x,foldedSetIterable iter X.env x=pure x:=by intro _; rfl) :
  PS X (.Assign [.Name y py] (.ListComp elt [⟨tg,iter,ifs,0⟩] sc pos) spos) (tSetC i own.length fr wi g tt te):=by
 intro pins s σ H D I h;obtain ⟨cl,ecl,h1,h2⟩:=nA (env:=X.env) (sc:=sc) fun y hy hf=>I.ok.has y.1 (cs.fre y hy hf)
 rw [exec_Assign_Name_used _ _ _ _ hsw];refine BE (wpAny_standAt (BE ?_));show wpAny _ X.A (do let _ <- comprehension (.ListComp elt [⟨tg,iter,ifs,0⟩] sc pos) sc X.env _ (newList []) false (eval iter X.env) (some (assign (.Name y py) X.env))) _ _ s
 refine BE (Cf (wpAny_comprehension_free (use:=some (assign (.Name y py) X.env)) (Q:=fun _ s'=>∃ σ' H',Inv X pins σ' H' s'/\D.nx σ' H') rfl hs ecl cs.kind cs.loc (thn (hi pins s σ H _ I h) fun v s1 q1=>thn q1 fun itv s2 q2=>?_))
  (fun _ s' hq=>BG (BG hq)) fun _ _ e=>e)
 obtain ⟨it,fp,tn,J,H2,rfl,I2,T,st,f2,KK⟩:=q2;refine nC (RR:=fun acc C=>compPost (model X.prog X.w) X.A X.xe (some (assign (.Name y py) X.env)) (fun _ s'=>∃ σ' H',Inv X pins σ' H' s'/\D.nx σ' H') acc C) I2 (fun _ _ _ _ _=>hc) T.x st f2 cs h1 h2 hg hif he KK fun p C m H' ys s' hC hn hD hCn hq I'=>?_
 obtain ⟨f0,f1,f2,f3,f4,f5⟩:=I2.fpOk hC hCn;show wpAny _ X.A (assign (.Name y py) X.env (.ref p)) _ _ _;refine wpAny_assign_Name (lO (v:=.ref p) I' hN hy hx rfl (fun s'' I'' ⟨a,hsa,ha⟩=>?_) hfn)
 have hCa:C≠a:=by
  rcases ha with z | z
  ·rw [z]; exact f1
  ·exact B1 (f4 y a z)
 refine ⟨m,hn.sameBut hsa hCa,fun h' hs'=>⟨_,_,?_,hq p hD⟩⟩
 exact I''.turned (t':=s''.toks) (it:=C) (fun b o hb e=>(hs'.2 b hb).trans e) f0 f1 f3 f4 f5
end
theorem eT {J:It}{g:TG}{tt:TT}{te:TE}{Q:List V->Hp->Prop} (n:Nat) (Pv:Nat->List V->St->Hp->Prop) (h0:Pv 0 [] σ H) (hl:∀ i ys σ H,i<=n->Pv i ys σ H->ys.length < sizeLine)
  (go:∀ i ys σ H,i < n->Pv i ys σ H->J.go i H) (stop:∀ ys σ H,Pv n ys σ H->J.stop n H)
  (turn:∀ i ys σ H,i < n->Pv i ys σ H->∀ x H',J.yld i H x H'->g x σ H' fun σ2 H2=>tt σ2 H2 fun b H3=>if b=true then te σ2 H3 fun y H4=>Pv (i + 1) (ys++[y]) σ2 H4 else Pv (i + 1) ys σ2 H3)
  (after:∀ ys σ H,Pv n ys σ H->Q ys H):Comp J g tt te Q σ H:=by
 refine ⟨fun i m ys σ H=>i<=n/\m=n - i/\Pv i ys σ H,⟨n,Ck _,rfl,h0⟩,fun i m ys σ H ⟨hi,hm,p⟩=>⟨hl i ys σ H hi p,?_⟩⟩
 rcases Nat.lt_or_ge i n with h | h
 ·exact .inr ⟨go i ys σ H h p,Pv (i + 1),fun ys' σ' H' q=>⟨n - (i + 1),by omega,h,rfl,q⟩,turn i ys σ H h p⟩
 ·have e:i=n:=Nat.le_antisymm hi h
  subst e;exact .inl ⟨stop ys σ H p,after ys σ H p⟩
theorem gj {lo:Int}{n:Nat}{g:TG}{tt:TT}{te:TE}{Q:List V->Hp->Prop} (Pv:Nat->List V->St->Hp->Prop) (hn:n < sizeLine) (h0:Pv 0 [] σ H) (hl:∀ i ys σ H,i<=n->Pv i ys σ H->ys.length<=i)
  (turn:∀ i ys σ H,i < n->Pv i ys σ H->g (.int (lo + i)) σ H fun σ2 H2=>tt σ2 H2 fun b H3=>if b=true then te σ2 H3 fun y H4=>Pv (i + 1) (ys++[y]) σ2 H4 else Pv (i + 1) ys σ2 H3)
  (after:∀ ys σ H,Pv n ys σ H->Q ys H):Comp (Itr lo n) g tt te Q σ H :=
 eT n Pv h0 (fun i ys σ H hi p=>Dj (B7 (hl i ys σ H hi p) hi) hn) (fun i _ _ _ hi _=>hi) (fun _ _ _ _=>BI _) (fun i ys σ H hi p x H' y=>by obtain ⟨rfl,rfl⟩:=y; exact turn i ys σ _ hi p) after
theorem bO (xs:List V) {g:TG}{tt:TT}{te:TE}{Q:List V->Hp->Prop} (Pv:Nat->List V->St->Hp->Prop) (hn:xs.length < sizeLine) (h0:Pv 0 [] σ H) (hl:∀ i ys σ H,i<=xs.length->Pv i ys σ H->ys.length<=i/\SqL K H a xs)
  (turn:∀ i ys σ H x,xs[i]?=some x->Pv i ys σ H->g x σ H fun σ2 H2=>tt σ2 H2 fun b H3=>if b=true then te σ2 H3 fun y H4=>Pv (i + 1) (ys++[y]) σ2 H4 else Pv (i + 1) ys σ2 H3)
  (after:∀ ys σ H,Pv xs.length ys σ H->Q ys H):Comp (Itl K a) g tt te Q σ H :=
 eT xs.length Pv h0 (fun i ys σ H hi p=>Dj (B7 (hl i ys σ H hi p).1 hi) hn) (fun i ys σ H hi p=>⟨xs,xs[i],(hl i ys σ H (Ce hi) p).2,BJ hi⟩)
  (fun ys σ H p=>⟨xs,(hl _ ys σ H (BI _) p).2,BI _⟩) (fun i ys σ H hi p x H' y=>by obtain ⟨rfl,y⟩:=y; exact turn i ys σ _ x (y xs (hl i ys σ _ (Ce hi) p).2) p) after
theorem dm (xs:List V) {g:TG}{tt:TT}{te:TE}{Q:List V->Hp->Prop} (Pv:Nat->List V->St->Hp->Prop) (hn:xs.length < sizeLine) (h0:Pv 0 [] σ H) (hl:∀ i ys σ H,i<=xs.length->Pv i ys σ H->ys.length<=i/\SqT K H a xs)
  (turn:∀ i ys σ H x,xs[i]?=some x->Pv i ys σ H->g x σ H fun σ2 H2=>tt σ2 H2 fun b H3=>if b=true then te σ2 H3 fun y H4=>Pv (i + 1) (ys++[y]) σ2 H4 else Pv (i + 1) ys σ2 H3)
  (after:∀ ys σ H,Pv xs.length ys σ H->Q ys H):Comp (Itt K a) g tt te Q σ H :=
 eT xs.length Pv h0 (fun i ys σ H hi p=>Dj (B7 (hl i ys σ H hi p).1 hi) hn) (fun i ys σ H hi p=>⟨xs,xs[i],(hl i ys σ H (Ce hi) p).2,BJ hi⟩)
  (fun ys σ H p=>⟨xs,(hl _ ys σ H (BI _) p).2,BI _⟩) (fun i ys σ H hi p x H' y=>by obtain ⟨rfl,y⟩:=y; exact turn i ys σ _ x (y xs (hl i ys σ _ (Ce hi) p).2) p) after
end L2

namespace L2
open PySem PySem.Spec PyProof.Rows
open AutoSeq1 (wpAny_loadPart') in
set_option maxHeartbeats 4000000 in
theorem xf (k:SK) (l:Addr) (xs:Array Value) :
  Meets (Builtin.«enumerate.__new__» ⟨[.type "enumerate",.ref l],[]⟩) (fun _ R s=>SIs k s.heap l xs /\
   R (.ok (.ret (.ref (s.heap.push (itObj k l)).objs.size))) { s with heap:=(s.heap.push (itObj k l)).push { cls:=.type "enumerate",data:=.fields #[.none,.bool false,.ref s.heap.objs.size,rawInt 0,.none,.none] } }):=by
 cases k with
 | list =>
  exact .of_wp fun prog w A R s h=>by
   obtain ⟨hp,g,d,tk,os⟩:=s; obtain ⟨hL,h⟩:=h;have hsub:=sub_enumerate;have hL:Heap.IsList (Shared.heap ⟨hp,g,d,tk,os⟩) l xs:=hL;obtain ⟨ol,hl,hlc,nl,hld⟩:=id hL
   wp_walk using Dk hl
   refine wpAny_stack_any fun st=>BG ?_
   split
   ·rename_i c _ _ _ _ _
    cases (c == Value.type "enumerate")
    ·wp_walk using Dk hl,CL hL
     exact ⟨_,rfl,h⟩
    ·wp_walk using Dk hl,CL hL
     exact ⟨_,rfl,h⟩
   ·wp_walk using Dk hl,CL hL
    exact ⟨_,rfl,h⟩
 | tuple =>
  exact .of_wp fun prog w A R s h=>by
   obtain ⟨hp,g,d,tk,os⟩:=s; obtain ⟨hL,h⟩:=h;have hsub:=sub_enumerate;have hL:Heap.IsTuple (Shared.heap ⟨hp,g,d,tk,os⟩) l xs:=hL;obtain ⟨ol,hl,hlc,nl,hld⟩:=id hL
   wp_walk using Dk hl
   refine wpAny_stack_any fun st=>BG ?_
   split
   ·rename_i c _ _ _ _ _
    cases (c == Value.type "enumerate")
    ·wp_walk using Dk hl,Di hL
     exact ⟨_,rfl,h⟩
    ·wp_walk using Dk hl,Di hL
     exact ⟨_,rfl,h⟩
   ·wp_walk using Dk hl,Di hL
    exact ⟨_,rfl,h⟩
section
variable {prog:Program}{w:World}{A:Around}{E:Value->Shared->Prop}{s:Shared}
theorem xg {k:SK}{l:Addr}{xs:Array Value}{Q:Value->Shared->Prop} (hL:SIs k s.heap l xs)
  (h:∀ h',IsEnum h' (s.heap.objs.size + 1) s.heap.objs.size 0 .none->SIt k h' s.heap.objs.size l 0->(∀ b o,s.heap.get? b=some o->h'.get? b=some o)->Q (.ref (s.heap.objs.size + 1)) { s with heap:=h' }) :
  wpAny (model prog w) A (call (.type "enumerate") [.ref l]) Q E s:=by
 refine callType_new F.called_enumerate (by decide) (F.typeCall_enumerate_1 _) (F.newCall_enumerate_1 _) (fun obj=>F.args_object_init_2 obj _) F.entry_enumerate_new (xf k l xs) ⟨hL,?_⟩
 have hz:(s.heap.push (itObj k l)).objs.size=s.heap.objs.size + 1:=CF ..;have r1:(itObj k l).isFreed=false:=by cases k <;> rfl
 have he:=B3 (s.heap.push (itObj k l)) (o:={ cls:=.type "enumerate",data:=.fields #[.none,.bool false,.ref s.heap.objs.size,rawInt 0,.none,.none] }) rfl;rw [hz] at he;show _/\_;rw [hz];exact ⟨⟨_,he,rfl⟩,h _ he (iY (BK _ (B3 _ r1))) fun b o x=>BK _ (BK _ x)⟩
theorem xh {k:SK}{e it l:Addr}{i:Nat}{items:Array Value}{x old:Value}{Q:Value->Shared->Prop}
  (he:IsEnum s.heap e it i old) (hit:SIt k s.heap it l i) (hl:SIs k s.heap l items) (hx:items[i]?=some x) (hne:e≠it)
  (hQ:∀ h',IsEnumOut h' e it ((i:Int) + 1) x s.heap.objs.size->SIt k h' it l (i + 1) ->
   h'.get? s.heap.objs.size=some { cls:=.type "tuple",data:=.seq #[.int i s.toks,x] }->h'.objs.size=s.heap.objs.size + 1 ->
   (∀ b o,b≠e->b≠it->s.heap.get? b=some o->h'.get? b=some o)->Q (.ref s.heap.objs.size) { s with heap:=h',toks:=s.toks + 1 }) :
  wpAny (model prog w) A (Builtin.«enumerate.__next__» ⟨[.ref e],[]⟩) (fun fin s'=>∃ v,fin=.done (.ret v)/\Q v s') E s:=by
 obtain ⟨hp,g,d,tk,os⟩:=s;show wpAny _ _ (field (.ref e) 2 >>= _) _ _ _;refine BE (Cg he rfl (x:=.ref it) rfl ?_);refine BE (gf hit hl hx fun h₁ hit₁ hs₁=>?_)
 replace hs₁:Heap.SameBut it hp h₁:=hs₁
 have he₁:IsEnum h₁ e it i old:=(hs₁.2 e hne).trans he;show wpAny _ _ (field (.ref e) 3 >>= _) _ _ ⟨h₁,g,d,tk,os⟩;refine BE (Cg he₁ rfl (x:=rawInt i) rfl ?_);show wpAny _ _ (field (.ref e) 4 >>= _) _ _ ⟨h₁,g,d,tk,os⟩;refine BE (Cg he₁ rfl (x:=.none) rfl ?_);show wpAny _ _ (mkInt i >>= _) _ _ ⟨h₁,g,d,tk,os⟩;refine BE (wpAny_mkInt ?_);show wpAny _ _ (setField (.ref e) 3 (rawInt ((i:Int) + 1)) >>= _) _ _ ⟨h₁,g,d,tk + 1,os⟩;refine BE (CZ he₁ (by simp) fun h₂ he₂ hs₂=>?_)
 replace hs₂:Heap.SameBut e h₁ h₂:=hs₂
 replace he₂:IsEnum h₂ e it ((i:Int) + 1) old:=he₂
 show wpAny _ _ (setField (.ref e) 4 .none >>= _) _ _ ⟨h₂,g,d,tk + 1,os⟩;refine BE (CZ he₂ (by simp) fun h₃ he₃ hs₃=>?_)
 replace hs₃:Heap.SameBut e h₂ h₃:=hs₃
 replace he₃:IsEnum h₃ e it ((i:Int) + 1) old:=he₃
 show wpAny _ _ (newTuple [.int i tk,x] >>= _) _ _ ⟨h₃,g,d,tk + 1,os⟩;refine BE (wpAny_newTuple ?_);have he₄:IsEnum (h₃.push { cls:=.type "tuple",data:=.seq #[.int i tk,x] }) e it ((i:Int) + 1) old:=BK _ he₃;generalize hh₄:h₃.push { cls:=.type "tuple",data:=.seq #[.int i tk,x] }=h₄ at he₄;have hsz:h₃.objs.size=hp.objs.size:=by rw [hs₃.1,hs₂.1,hs₁.1]
 have hel:e < hp.objs.size:=BM he;have ht₄:h₄.get? hp.objs.size=some { cls:=.type "tuple",data:=.seq #[.int i tk,x] }:=by rw [<- hh₄,<- hsz]; exact B3 _ rfl
 have hz₄:h₄.objs.size=hp.objs.size + 1:=by rw [<- hh₄,CF,hsz]
 have hk₄:∀ b o,b≠e->b≠it->hp.get? b=some o->h₄.get? b=some o:=fun b o hbe hbi hb=>by
  rw [<- hh₄]; exact BK _ (hs₃.extBut b o hbe (hs₂.extBut b o hbe (hs₁.extBut b o hbi hb)))
 have hit₄:SIt k h₄ it l (i + 1):=by
  rw [<- hh₄]; exact ((hit₁.ext hs₂.extBut (B1 hne)).ext hs₃.extBut (B1 hne)).at fun o ho=>BK _ ho
 show wpAny _ _ (Builtin.SmallTypes.ownedTupleIsFree (.ref e) >>= _) _ _ ⟨h₄,g,d,tk + 1,os⟩;rw [hsz];clear hh₄ he₃ hs₃ he₂ hs₂ he₁ hs₁ hit₁ hsz h₃ h₂ h₁;refine BE ?_
 ·unfold Builtin.SmallTypes.ownedTupleIsFree
  refine BE (Cg he₄ rfl (x:=.none) rfl (BG ?_));simp only [if_true];refine BE (wpAny_rule ?_);refine BE (Cg he₄ rfl (x:=old) rfl ?_);refine BE (CZ he₄ (by simp) fun h₅ he₅ hs₅=>?_)
  replace hs₅:Heap.SameBut e h₄ h₅:=hs₅
  replace he₅:IsEnum h₅ e it ((i:Int) + 1) x:=he₅
  show wpAny _ _ (Builtin.SmallTypes.ownedTupleHandOut (.ref e) (.ref hp.objs.size) >>= _) _ _ ⟨h₅,g,d,tk + 1,os⟩;refine BE ?_
  ·unfold Builtin.SmallTypes.ownedTupleHandOut
   refine BE (CZ he₅ (by simp) fun h₆ he₆ hs₆=>?_)
   replace hs₆:Heap.SameBut e h₅ h₆:=hs₆
   replace he₆:IsEnumOut h₆ e it ((i:Int) + 1) x hp.objs.size:=he₆
   refine CZ he₆ (by simp) fun h₇ he₇ hs₇=>?_
   replace hs₇:Heap.SameBut e h₆ h₇:=hs₇
   replace he₇:IsEnumOut h₇ e it ((i:Int) + 1) x hp.objs.size:=he₇
   refine BE (wpAny_letGo (BG ⟨_,rfl,hQ h₇ he₇ ?_ ?_ ?_ ?_⟩))
   ·exact ((hit₄.ext hs₅.extBut (B1 hne)).ext hs₆.extBut (B1 hne)).ext hs₇.extBut (B1 hne)
   ·exact hs₇.extBut _ _ (CJ hel) (hs₆.extBut _ _ (CJ hel) (hs₅.extBut _ _ (CJ hel) ht₄))
   ·rw [hs₇.1,hs₆.1,hs₅.1,hz₄]
   ·exact fun b o hbe hbi hb=>hs₇.extBut b o hbe (hs₆.extBut b o hbe (hs₅.extBut b o hbe (hk₄ b o hbe hbi hb)))
theorem xi {k:SK}{e it l:Addr}{i:Nat}{items:Array Value}{x old:Value}{Q:Option Value->Shared->Prop}
  (he:IsEnum s.heap e it i old) (hit:SIt k s.heap it l i) (hl:SIs k s.heap l items) (hx:items[i]?=some x) (hne:e≠it)
  (hQ:∀ h',IsEnumOut h' e it ((i:Int) + 1) x s.heap.objs.size->SIt k h' it l (i + 1) ->
   h'.get? s.heap.objs.size=some { cls:=.type "tuple",data:=.seq #[.int i s.toks,x] }->h'.objs.size=s.heap.objs.size + 1 ->
   (∀ b o,b≠e->b≠it->s.heap.get? b=some o->h'.get? b=some o)->Q (some (.ref s.heap.objs.size)) { s with heap:=h',toks:=s.toks + 1 }) :
  wpAny (model prog w) A (pyNext (.ref e)) Q E s:=by
 have hT:s.TypeIs (.ref e) "enumerate" := ⟨_,he,rfl⟩;unfold pyNext;exact BE (wpAny_attempt (C9 (name:=Str.ofString "__next__") hT F.slot_enumerate_next
  (CW F.slot_enumerate_next hT F.entry_enumerate_next
   (xh he hit hl hx hne fun h' a b c d k=>BG (hQ h' a b c d k)) (F.args_enumerate_next_1 _))))
theorem xj {k:SK}{e it l:Addr}{i:Nat}{items:Array Value}{old:Value}{Q:Option Value->Shared->Prop} (hh:A.handled=none)
  (he:IsEnum s.heap e it i old) (hit:SIt k s.heap it l i) (hl:SIs k s.heap l items) (hx:items[i]?=none)
  (hQ:∀ h',Heap.ExtBut it s.heap h'->Q none { s with heap:=h' }):wpAny (model prog w) A (pyNext (.ref e)) Q E s:=by
 have hT:s.TypeIs (.ref e) "enumerate" := ⟨_,he,rfl⟩;unfold pyNext;refine BE (wpAny_attempt (C9 (name:=Str.ofString "__next__") hT F.slot_enumerate_next
  (CW F.slot_enumerate_next hT F.entry_enumerate_next ?_ (F.args_enumerate_next_1 _))))
 show wpAny _ _ (field (.ref e) 2 >>= _) _ _ _;refine BE (Cg he rfl (x:=.ref it) rfl ?_);refine BE (iX hh hit hl hx fun h' x he' hx'=>?_)
 obtain ⟨o,ho,hc⟩:=hx';refine BE (wpAny_isInstance (T := "StopIteration") (b:=true) ⟨o,ho,hc⟩ isSubtype_stop ?_);exact BG (hQ _ he')
end
def Itn (K:PySem.W.Frag) (k:SK) (a:Addr):It :=
 ⟨fun i H=>∃ xs x,Sq k K H a xs/\xs[i]?=some x,
  fun i H v H'=>∃ T,H T=none/\v=.ref T/\∀ xs,Sq k K H a xs->∃ x,xs[i]?=some x/\H'=upd H T (.tup [.int i,x]),
  fun i H=>∃ xs,Sq k K H a xs/\xs.length<=i⟩
theorem xk {P:Program}{w:World}{K:PySem.W.Frag}{elts:List Expr}{kk:Nat}{tpos:Pos}{k:SK}{e it a:Addr} (hne:e≠it) :
  Turn P w K (.Tuple elts kk tpos) (Itn K k a) [e,it] e (fun i h=>(∃ old,IsEnum h e it i old)/\SIt k h it a i) where
 mem:=by simp
 obj:=fun i h st b hb=>by
  obtain ⟨⟨old,he⟩,h1⟩:=st;simp only [BV,Cp,Cq] at hb;rcases hb with rfl | rfl
  ·exact ⟨_,he,fun v q=>nomatch q⟩
  ·exact h1.obj
 keep:=fun i h h' st k=>by
  obtain ⟨⟨old,he⟩,h1⟩:=st;exact ⟨⟨old,k _ (by simp) _ he⟩,h1.at fun o e=>k _ (by simp) o e⟩
 item:=by
  intro X hP hw hK hc i pins s σ H E I hf st hg;subst hP hw hK;obtain ⟨⟨old,he⟩,h1⟩:=st;obtain ⟨xs,x,q1,hx⟩:=hg;obtain ⟨ix,rx,px⟩:=I.sis q1;obtain ⟨u,hu,ru⟩:=rx.get hx;refine xi he h1 px (x:=u) (by simpa using hu) hne fun h' a1 a2 a3 a4 a5=>?_
  refine ⟨_,rfl,wpAny_letOwnedTupleGo_enum (s:={ s with heap:=h',toks:=s.toks + 1 }) a1 fun h'' b1 b2=>?_⟩
  have elt:e < s.heap.objs.size:=BM he;have ilt:it < s.heap.objs.size:=by obtain ⟨o,ho,_⟩:=h1.obj; exact BM ho
  have k2:∀ c o,c ∉ [e,it]->s.heap.get? c=some o->h''.get? c=some o:=fun c o hc ec=>by
   simp only [BV,Cp,Cq,not_or] at hc;exact b2.extBut _ _ hc.1 (a5 c o hc.1 hc.2 ec)
  have hT2:h''.get? s.heap.objs.size=some { cls:=.type "tuple",data:=.seq #[.int i s.toks,u] }:=b2.extBut _ _ (CJ elt) a3;refine ⟨.ref s.heap.objs.size,upd H s.heap.objs.size (.tup [.int i,x]),I.turnedNew (t':=s.toks + 1) (o:=.tup [.int i,x]) k2 hf (BI _)
   ⟨by show 2<=sizeLine; decide,[.int i s.toks,u],.cons ⟨_,rfl⟩ (.cons ru .nil),⟨_,hT2,rfl,_,rfl⟩⟩,rfl,
   ⟨_,I.hok.fresh (BI _),rfl,fun xs' e1=>?_⟩,⟨⟨u,by simpa using b1⟩,a2.at fun o eo=>b2.extBut _ _ (B1 hne) eo⟩,fun b hb=>?_⟩
  ·rw [I.sq_inj e1 q1]
   exact ⟨x,hx,rfl⟩
  ·have blt:b < s.heap.objs.size:=by
    simp only [BV,Cp,Cq] at hb;rcases hb with rfl | rfl
    ·exact elt
    ·exact ilt
   rw [aD (BS blt)];exact (hf b hb).1
 done:=by
  intro X hP hw hK hc i pins s σ H E I hf st hg;subst hP hw hK;obtain ⟨⟨old,he⟩,h1⟩:=st;obtain ⟨xs,q1,hl⟩:=hg;obtain ⟨ix,rx,px⟩:=I.sis q1;have l1:=rx.length;refine xj (I.ok.hd hc) he h1 px (by simp; omega) fun h' hk=>⟨rfl,I.turnedL (t':=s.toks) (its:=[e,it]) (fun b o hb eb=>?_) hf⟩
  simp only [BV,Cp,Cq,not_or] at hb;exact hk b o hb.2 eb
 self:=fun _ _ _ _ _ st h=>by
  obtain ⟨⟨old,he⟩,_⟩:=st;exact wpAny_pyIter_enum he h
section
variable {X:Cx}{elts:List Expr}{kk:Nat}{tpos:Pos}
def iEnum (K:PySem.W.Frag) (k:SK) (ta:TA):TI:=fun σ H R=>ta σ H fun vs H1=>∃ a,vs=[.ref a]/\(∃ xs,Sq k K H1 a xs)/\R (Itn K k a) H1
theorem xm (k:SK) {a:Expr}{ta:TA}{p pos:Pos} (hg:Gl X "enumerate") (hm:X.mg "enumerate" = none) (ha:PA X [a] ta) (hs:starEach [a] X.env=[(false,eval a X.env)]:=by rfl) :
  PI X (.Tuple elts kk tpos) (.Call (.Name "enumerate" p) [a] [] pos) (iEnum X.K k ta):=by
 intro pins s σ H R I h;refine Call_ (dz I hg hm PyProof.Rows.Boot.«enumerate» (DA (thn (ha pos pins s σ H _ I h) fun us s1 ⟨vs,H1,I1,r1,q1⟩=>?_) hs rfl))
 obtain ⟨a',e,⟨xs,qx⟩,q⟩:=q1;subst e;cases r1 with
 | cons r rr =>
  cases rr;cases r;obtain ⟨ix,rx,px⟩:=I1.sis qx;refine xg px fun h' b1 b2 b3=>wpAny_pyIter_enum (s:={ s1 with heap:=h' }) b1 ?_
  have nn:∀ b,s1.heap.objs.size<=b->FpOk X pins H1 b:=fun b hb=>I1.fpOk hb (I1.hok.fresh hb)
  refine ⟨_,[s1.heap.objs.size + 1,s1.heap.objs.size],_,_,H1,rfl,I1.kept (t':=s1.toks) b3,xk (k:=k) (CJ (Nat.lt_succ_self _)),⟨⟨_,b1⟩,b2⟩,fun b hb=>?_,q⟩
  simp only [BV,Cp,Cq] at hb;rcases hb with rfl | rfl
  ·exact nn _ (Nat.le_succ _)
  ·exact nn _ (BI _)
end
theorem xn {K:PySem.W.Frag}{k:SK}{a:Addr}{xs:List V}{g:TG}{tb:TS}{D:Ends}{σ:St}{H:Hp} (Pv:Nat->St->Hp->Prop) (h0:Pv 0 σ H)
  (hl:∀ i σ H,i<=xs.length->Pv i σ H->Sq k K H a xs)
  (hs:∀ i x σ H T,xs[i]?=some x->Pv i σ H->H T=none->g (.ref T) σ (upd H T (.tup [.int i,x])) fun σ2 H2=>tb { D with nx:=Pv (i + 1),ct:=Pv (i + 1),bk:=D.nx } σ2 H2)
  (hd:∀ σ H,Pv xs.length σ H->D.nx σ H):Loop (Itn K k a) g tb D σ H:=by
 refine ⟨fun i m σ H=>m=xs.length - i/\i<=xs.length/\Pv i σ H,⟨xs.length,by simp,Ck _,h0⟩,?_⟩
 rintro i m σ H ⟨rfl,hi,p⟩;have q1:=hl i σ H hi p
 by_cases hlt:i < xs.length
 ·refine .inr ⟨⟨xs,xs[i],q1,by simp [hlt]⟩,Pv (i + 1),fun σ' H' p'=>⟨xs.length - (i + 1),by omega,rfl,hlt,p'⟩,fun x H' y=>?_⟩
  obtain ⟨T,hT,rfl,y⟩:=y;obtain ⟨u,e1,rfl⟩:=y xs q1;exact hs i u σ H T e1 p hT
 ·have e:i=xs.length:=by omega
  refine .inl ⟨⟨xs,q1,by omega⟩,?_⟩
  subst e;exact hd σ H p
theorem gm {K:PySem.W.Frag}{k:SK}{a:Addr} (xs:List V) {g:TG}{tt:TT}{te:TE}{Q:List V->Hp->Prop}{σ:St}{H:Hp} (Pv:Nat->List V->St->Hp->Prop) (hn:xs.length < sizeLine) (h0:Pv 0 [] σ H) (hl:∀ i ys σ H,i<=xs.length->Pv i ys σ H->ys.length<=i/\Sq k K H a xs)
  (turn:∀ i ys σ H x T,xs[i]?=some x->Pv i ys σ H->H T=none->g (.ref T) σ (upd H T (.tup [.int i,x])) fun σ2 H2=>tt σ2 H2 fun b H3=>if b=true then te σ2 H3 fun y H4=>Pv (i + 1) (ys++[y]) σ2 H4 else Pv (i + 1) ys σ2 H3)
  (after:∀ ys σ H,Pv xs.length ys σ H->Q ys H):Comp (Itn K k a) g tt te Q σ H :=
 eT xs.length Pv h0 (fun i ys σ H hi p=>Dj (B7 (hl i ys σ H hi p).1 hi) hn) (fun i ys σ H hi p=>⟨xs,xs[i],(hl i ys σ H (Ce hi) p).2,BJ hi⟩)
  (fun ys σ H p=>⟨xs,(hl _ ys σ H (BI _) p).2,BI _⟩) (fun i ys σ H hi p x H' y=>by
   obtain ⟨T,hT,rfl,y⟩:=y;obtain ⟨u,e1,rfl⟩:=y xs (hl i ys σ _ (Ce hi) p).2;exact turn i ys σ _ u T e1 p hT) after
theorem nE {K:PySem.W.Frag}{k1 k2:SK}{a b:Addr} (xs zs:List V) {g:TG}{tt:TT}{te:TE}{Q:List V->Hp->Prop}{σ:St}{H:Hp} (Pv:Nat->List V->St->Hp->Prop) (hn:xs.length < sizeLine) (hz:xs.length=zs.length) (h0:Pv 0 [] σ H) (hl:∀ i ys σ H,i<=xs.length->Pv i ys σ H->ys.length<=i/\Sq k1 K H a xs/\Sq k2 K H b zs)
  (turn:∀ i ys σ H x z T,xs[i]?=some x->zs[i]?=some z->Pv i ys σ H->H T=none->g (.ref T) σ (upd H T (.tup [x,z])) fun σ2 H2=>tt σ2 H2 fun b H3=>if b=true then te σ2 H3 fun y H4=>Pv (i + 1) (ys++[y]) σ2 H4 else Pv (i + 1) ys σ2 H3)
  (after:∀ ys σ H,Pv xs.length ys σ H->Q ys H):Comp (Itz K k1 k2 a b) g tt te Q σ H :=
 eT xs.length Pv h0 (fun i ys σ H hi p=>Dj (B7 (hl i ys σ H hi p).1 hi) hn)
  (fun i ys σ H hi p=>⟨xs,zs,xs[i],zs[i]'(hz ▸ hi),(hl i ys σ H (Ce hi) p).2.1,(hl i ys σ H (Ce hi) p).2.2,BJ hi,BJ (hz ▸ hi)⟩)
  (fun ys σ H p=>⟨xs,zs,(hl _ ys σ H (BI _) p).2.1,(hl _ ys σ H (BI _) p).2.2,.inl (BI _)⟩) (fun i ys σ H hi p x H' y=>by
   obtain ⟨T,hT,rfl,y⟩:=y;obtain ⟨u,v,e1,e2,rfl⟩:=y xs zs (hl i ys σ _ (Ce hi) p).2.1 (hl i ys σ _ (Ce hi) p).2.2;exact turn i ys σ _ u v T e1 e2 p hT) after
end L2

namespace L2
open PySem PySem.Spec PyProof.Rows
theorem xp:typeLookup (.type "list") "__getattr__" = pure none:=by rw [typeLookup_type,builtinLookup_eq_fast]; kernel_rfl
theorem nF:typeLookup (.type "list") "keys" = pure none:=by rw [typeLookup_type,builtinLookup_eq_fast]; kernel_rfl
set_option maxHeartbeats 4000000 in
theorem xq (a:Addr) (its:Array Value) (n:Nat) (name:Str) (u:Tok) (hmiss:typeLookup (.type "list") name=pure none) (hns:[Str.ofString "__module__",Str.ofString "__name__",Str.ofString "__qualname__",Str.ofString "__doc__",Str.ofString "__annotations__"].contains name=false) (hsz:name.length + 100<=sizeLine:=by size_fits) :
  Meets (Builtin.«object.__getattribute__» ⟨[.ref a,.str name u],[]⟩) (fun A R s=>s.heap.get? a=some { cls:=.type "list",data:=.seq its n }/\raisesAttr (.ref a) name A R s) :=
 Meets.of_wp fun prog w A R s hs=>by
  obtain ⟨hp,g,d,tk,os⟩:=s;obtain ⟨ha,hs⟩:=hs;have hT:(⟨hp,g,d,tk,os⟩:Shared).TypeIs (.ref a) "list" := ⟨_,ha,rfl⟩;unfold Builtin.«object.__getattribute__»
  repeat (any_goals (first | assumption | wp_step))
  rw [if_neg (by rw [hns]; exact B9)]
  repeat (any_goals (first | assumption | wp_step))
  exact wpAny_raiseAttrError hs.1 hs.2 (attrMsg_fits (by decide +kernel) hsz)
section
variable {prog:Program}{w:World}{A:Around}{E:Value->Shared->Prop}{s:Shared}
set_option maxHeartbeats 4000000 in
theorem nG {a:Addr}{its:Array Value}{n:Nat}{name:Str}{Q:Option Value->Shared->Prop} (hmiss:typeLookup (.type "list") name=pure none) (hns:[Str.ofString "__module__",Str.ofString "__name__",Str.ofString "__qualname__",Str.ofString "__doc__",Str.ofString "__annotations__"].contains name=false) (hA:A.handled=none) (ha:s.heap.get? a=some { cls:=.type "list",data:=.seq its n })
  (h:∀ h' tk,(∀ b o,s.heap.get? b=some o->h'.get? b=some o)->Q none { s with heap:=h',toks:=tk }) (hsz:name.length + 100<=sizeLine:=by size_fits) :
  wpAny (model prog w) A (getAttr? (.ref a) name) Q E s:=by
 obtain ⟨hp,g,d,tk,os⟩:=s;have hT:∀ t',(⟨hp,g,d,t',os⟩:Shared).TypeIs (.ref a) "list" := fun _=>⟨_,ha,rfl⟩
 have f1:=sub_AttributeError;have f3:=F.slot_list_getattribute.lookup;have f4:=F.slot_list_getattribute.bind (.ref a);have f5:=xp;unfold getAttr? getAttrBy? getAttrBy
 repeat (any_goals (first | assumption | exact hT _ | ((with_reducible show wpAny _ _ (call (Value.builtin "list.__getattribute__") _ _) _ _ _); refine call_meets F.slot_list_getattribute (hT _) F.entry_list_ga (F.args_list_getattribute_2 _ _) (xq a its n name _ hmiss hns hsz) ⟨ha,hA,fun h' tk' e hx=>?_⟩) | wp_step))
 obtain ⟨t',u',he⟩:=hx.there;show wpAny _ _ (getattributeRaised _ _ _ _ _ _ _) _ _ _;unfold getattributeRaised
 repeat (any_goals (first | assumption | wp_step))
 exact h _ _ fun b o hb=>hx.keeps b o hb
end
theorem gp:entryFor table "dict.update.loop" = some Builtin.«dict.update.loop»:=entryFor_of_tree (by kernel_rfl)
theorem dO:plainId "dict.update.loop" = true:=by decide +kernel
section
variable {prog:Program}{w:World}{K:Type} [DecidableEq K] {knd:KeyKind prog w K}{A:Around}{R:Result->Shared->Prop}
theorem xr {d I l:Addr}{items:Array Value}{ps:List (K × Value)} (hh:A.handled=none) (hdI:d≠I) (hld:l≠d) (hlI:l≠I) (hn:items.size=ps.length) (hsz:ps.length<=sizeLine) :
  ∀ (k i:Nat) (s:Shared) (acc:List (K × Value)),ps.length - i=k->i<=ps.length->acc.length<=i->s.heap.IsListIter I l i->s.heap.IsList l items->s.heap.DictOf knd d acc ->
  (∀ (j:Nat) (kv:K × Value),ps[j]?=some kv->∃ (t:Addr) (key:Value),items[j]?=some (Value.ref t)/\s.heap.IsTuple t #[key,kv.2]/\knd.is kv.1 key=true/\t≠d/\t≠I) ->
  (∀ h' tk,h'.DictOf knd d (merged acc (ps.drop i))->(∀ b o,b≠d->b≠I->s.heap.get? b=some o->h'.get? b=some o)->R (.ok (.ret .none)) { s with heap:=h',toks:=tk }) ->
  codeAny (model prog w) A (.builtin "dict.update.loop" ⟨[.ref d,.ref I,rawInt i,.none],[]⟩) R s:=by
 intro k
 induction k with
 | zero =>
  intro i s acc hk hi hacc hit hl hd hp hR;refine C0 gp ?_;rw [Dl dO _];show wpAny _ A.in1 (pyNext (.ref I) >>= _) _ _ s;refine BE (wpAny_pyNext_list_end (A:=A.in1) hh hit hl (by simp; omega) fun h₁ he₁=>?_)
  show wpAny _ _ (Builtin.Dict.addKeywords d [] >>= _) _ _ _;refine BE (BG (BG ?_));have:=hR h₁ s.toks (by rw [List.drop_of_length_le (by omega)]; exact hd.extBut he₁ hdI) (fun b o hb hbI e=>he₁ b o hbI e)
  exact this
 | succ k ih =>
  intro i s acc hk hi hacc hit hl hd hp hR;have hlt:i < ps.length:=by omega
  obtain ⟨t,key,hx,ht,hkey,htd,htI⟩:=hp i ps[i] (BJ hlt);refine C0 gp ?_;rw [Dl dO _];show wpAny _ A.in1 (pyNext (.ref I) >>= _) _ _ s;refine BE (wpAny_pyNext_list_item hit hl hx fun h₁ hit₁ hs₁=>?_)
  have ht₁:h₁.IsTuple t #[key,ps[i].2]:=let ⟨o,ho,r⟩:=ht; ⟨o,(hs₁.2 t htI).trans ho,r⟩;have hd₁:h₁.DictOf knd d acc:=hd.sameBut hs₁ hdI;refine BE (Cz ?_);obtain ⟨ot,hot,hotc,nt,hotd⟩:=id ht₁;refine BE (wpAny_tryCatch ?_);unfold Builtin.Dict.pairItems;refine BE (wpAny_typeOf (T := "tuple") (⟨ot,hot,hotc⟩:Shared.TypeIs _ (.ref t) "tuple") ?_);rw [if_pos (by decide)]
  refine BE (CN hot hotd (BG ?_));show wpAny _ _ (holding [key,ps[i].2] (dictSet d key ps[i].2)) _ _ _;refine Cz (wpAny_dictSet_pairs (hsz:=by omega) hkey hd₁ fun h₂ hd₂ hs₂=>BG ?_)
  refine ⟨plainId_quiet dO _,?_⟩;have up:∀ b o,b≠d->b≠I->s.heap.get? b=some o->h₂.get? b=some o:=fun b o hb hbI e=>(hs₂.2 b hb).trans ((hs₁.2 b hbI).trans e)
  have e1:(i:Int) + 1=((i + 1:Nat):Int):=by omega
  have:=ih (i + 1) { s with heap:=h₂,toks:=s.toks + 1 } (stored acc ps[i].1 ps[i].2) (by omega) hlt (B7 (stored_length_le ..) (by omega)) (hit₁.extBut hs₂.extBut (B1 hdI))
   (let ⟨o,ho,r⟩:=hl; ⟨o,up l o hld hlI ho,r⟩) hd₂ (fun j kv hj=>by
    obtain ⟨t',key',a1,⟨o,ho,r⟩,a3,a4,a5⟩:=hp j kv hj;exact ⟨t',key',a1,⟨o,up t' o a4 a5 ho,r⟩,a3,a4,a5⟩) (fun h' tk hm hk'=>by
    have:=hR h' tk (by
     rw [List.drop_eq_getElem_cons hlt];exact hm) fun b o hb hbI e=>hk' b o hb hbI (up b o hb hbI e)
    exact this)
  rw [<- e1] at this;exact this
end
section
variable {prog:Program}{w:World}{K:Type} [DecidableEq K] {knd:KeyKind prog w K}{A:Around}{E:Value->Shared->Prop}{s:Shared}
theorem xt {l:Addr}{items:List Value}{n:Nat}{ps:List (K × Value)}{Q:Value->Shared->Prop} (hh:A.handled=none) (hl:s.heap.get? l=some { cls:=.type "list",data:=.seq items.toArray n })
  (hn:items.length=ps.length) (hsz:ps.length<=sizeLine) (hp:∀ (j:Nat) (kv:K × Value),ps[j]?=some kv->∃ (t:Addr) (key:Value),items[j]?=some (Value.ref t)/\s.heap.IsTuple t #[key,kv.2]/\knd.is kv.1 key=true)
  (h:∀ h' tk,h'.DictOf knd s.heap.objs.size (merged [] ps)->(∀ b o,s.heap.get? b=some o->h'.get? b=some o)->Q (.ref s.heap.objs.size) { s with heap:=h',toks:=tk }) :
  wpAny (model prog w) A (call (.type "dict") [.ref l]) Q E s:=by
 refine callType_codes (Q₁:=fun obj s₁=>obj=.ref s.heap.objs.size/\s₁={ s with heap:=s.heap.push { cls:=.type "dict",data:=.dict #[] } }) F.kt_called_dict (F.kt_typeCall_dict_1 _) F.entry_dict_init (kt_code_dict_new _ ⟨rfl,rfl⟩) ?_
 rintro obj s₁ ⟨rfl,rfl⟩;have hnew:(s.heap.push { cls:=.type "dict",data:=.dict #[] }).DictOf knd s.heap.objs.size []:=Heap.DictOf.new s.heap;have hl':(s.heap.push { cls:=.type "dict",data:=.dict #[] }).get? l=some { cls:=.type "list",data:=.seq items.toArray n }:=BK _ hl;refine ⟨hnew.typeIs,F.args_dict_init_2 _ _,?_⟩;unfold Builtin.«dict.__init__»;refine BE ?_;unfold Builtin.Dict.selfAndRest;refine BE (wpAny_notOrdered_dict hnew.typeIs ?_);show wpAny _ _ (pure (s.heap.objs.size,[Value.ref l])) _ _ _;refine BG ?_;show wpAny _ _ (Builtin.Dict.updateFrom "dict.__init__" s.heap.objs.size (.ref l) [] .none) _ _ _;unfold Builtin.Dict.updateFrom;refine BE (wpAny_typeOf (T := "list") (⟨_,hl',rfl⟩:Shared.TypeIs _ (.ref l) "list") ?_);rw [if_pos (by decide)]
 refine BE (nG (name := "keys") nF (by decide +kernel) ?_ hl' fun h₁ tk₁ k₁=>?_)
 ·first | exact hh | (show A.in1.handled=none; exact hh)
 rw [if_pos (show (none:Option Value).isNone=true from rfl)];refine BE (wpAny_rule ?_);have hl₁:h₁.IsList l items.toArray:=⟨_,k₁ _ _ hl',rfl,n,rfl⟩;refine BE (CL (s:={ s with heap:=h₁,toks:=tk₁ }) hl₁ ?_)
 have szd:s.heap.objs.size < h₁.objs.size:=by
  obtain ⟨o,_,_,ho,_⟩:=hnew;exact BM (k₁ _ _ ho)
 have lsz:l < s.heap.objs.size:=BM hl;have old:∀ b o,s.heap.get? b=some o->(h₁.push { cls:=.type "list_iterator",data:=.fields #[.ref l,.int 0 0] }).get? b=some o:=fun b o e=>BK _ (k₁ b o (BK _ e))
 refine BG ⟨plainId_quiet dO _,?_⟩;refine xr (knd:=knd) (d:=s.heap.objs.size) (I:=h₁.objs.size) (l:=l) (items:=items.toArray) (ps:=ps) (A:=A.in1) hh (BS szd) (BS lsz) (BS (Nat.lt_trans lsz szd)) (by simpa using hn) hsz ps.length 0 _ [] rfl (Ck _) (BI _)
  ⟨_,B3 _ rfl,rfl,rfl⟩ ⟨_,BK _ (k₁ _ _ hl'),rfl,n,rfl⟩ (let ⟨o,es,ep,ho,r⟩:=hnew; ⟨o,es,ep,BK _ (k₁ _ _ ho),r⟩) (fun j kv hj=>?_) (fun h' tk hm hk=>?_)
 ·obtain ⟨t,key,a1,⟨o,ho,r⟩,a3⟩:=hp j kv hj
  have tlt:=BM ho;exact ⟨t,key,by simpa using a1,⟨o,old t o ho,r⟩,a3,BS tlt,BS (Nat.lt_trans tlt szd)⟩
 ·exact ⟨rfl,h h' tk hm fun b o e=>hk b o (BS (BM e)) (BS (Nat.lt_trans (BM e) szd)) (old b o e)⟩
end
end L2

namespace L2
open PySem PySem.Spec PyProof.Rows
section
variable {X:Cx}
theorem xu {P:Program}{w:World}{k:Key}{u:Value} (r:RelV (kV k) u):(mixKind P w).is k u=true:=dZ r
theorem gq (hc:X.calm=true):CallR X (.type "dict") (fun xs H Q=>∃ (p:Addr) (ts:List Addr) (kvs:List (Key × V)),xs=[.ref p]/\H p=some (.lst (ts.map V.ref))/\ts.length=kvs.length /\
  (∀ (i:Nat) (t:Addr) (kv:Key × V),ts[i]?=some t->kvs[i]?=some kv->H t=some (.tup [kV kv.1,kv.2]))/\(kvs.map (·.1)).Nodup/\kvs.length<=sizeLine/\∀ d,H d=none->Q (.ref d) (upd H d (.dK kvs))):=by
 intro pins s σ H xs us Q I r h;obtain ⟨p,ts,kvs,rfl,hp,hlen,hts,hnd,hz,q⟩:=h;obtain ⟨u,rfl,ru⟩:=vals1 r;cases ru;obtain ⟨z,its,n,rv,e⟩:=I.hok p _ hp;have each:∀ (i:Nat) (kv:Key × V),kvs[i]?=some kv->∃ (t:Addr) (ku vu:Value),its[i]?=some (.ref t)/\s.heap.IsTuple t #[ku,vu]/\RelV (kV kv.1) ku/\RelV kv.2 vu:=by
  intro i kv ei;have hi:i < ts.length:=by rw [hlen]; exact (BX.mp ei).1
  have et:ts[i]?=some ts[i]:=BJ hi;obtain ⟨u,eu,ru⟩:=rv.get (i:=i) (x:=.ref ts[i]) (by rw [BN,et]; rfl)
  cases ru;obtain ⟨_,us,r2,o,ho,hoc,no,hod⟩:=I.hok _ _ (hts i ts[i] kv et ei);obtain ⟨ku,vu,rfl,rk,rvv⟩:=vals2 r2;exact ⟨ts[i],ku,vu,eu,⟨o,ho,hoc,no,hod⟩,rk,rvv⟩
 have mk:∀ (l:List (Key × V)) (m:Nat),(∀ (i:Nat) (kv:Key × V),l[i]?=some kv->kvs[m + i]?=some kv)->∃ ps:List (Key × Value),KV l ps /\
   ∀ (i:Nat) (kv:Key × Value),ps[i]?=some kv->∃ (t:Addr) (key:Value),its[m + i]?=some (.ref t)/\s.heap.IsTuple t #[key,kv.2]/\(mixKind X.prog X.w).is kv.1 key=true:=by
  intro l
  induction l with
  | nil=>intro m _; exact ⟨[],.nil,fun i kv e=>by simp at e⟩
  | cons kv l ih =>
   intro m hm;obtain ⟨t,ku,vu,e1,e2,e3,e4⟩:=each m kv (by simpa using hm 0 kv rfl)
   obtain ⟨ps,h1,h2⟩:=ih (m + 1) fun i kv' e=>by
    have:=hm (i + 1) kv' (by simpa using e)
    rw [show m + 1 + i=m + (i + 1) by omega]; exact this
   refine ⟨(kv.1,vu) :: ps,.cons ⟨rfl,e4⟩ h1,fun i kv' e=>?_⟩
   cases i with
   | zero =>
    simp at e;subst e;exact ⟨t,ku,by simpa using e1,e2,xu e3⟩
   | succ i =>
    obtain ⟨t',key,f1,f2,f3⟩:=h2 i kv' (by simpa using e)
    exact ⟨t',key,by rw [show m + (i + 1)=m + 1 + i by omega]; exact f1,f2,f3⟩
 obtain ⟨ps,kv,hps⟩:=mk kvs 0 fun i kv e=>by simpa using e
 have lps:kvs.length=ps.length:=BH kv;have keys:ps.map (·.1)=kvs.map (·.1):=by
  clear hps mk each hts hnd hz q lps hlen;unfold KV at kv
  induction kv with
  | nil=>rfl
  | cons a _ ih=>rw [B4,B4,ih,a.1]
 refine xt (knd:=mixKind X.prog X.w) (ps:=ps) (I.ok.hd hc) e (by rw [<- rv.length]; simp; omega) (by omega) (fun j kv' ej=>by
  have:=hps j kv' ej
  simpa using this) fun h' tk hd hk=>?_
 rw [merged_nil_of_nodup ps (by rw [keys]; exact hnd)] at hd
 have hf:H s.heap.objs.size=none:=I.hok.fresh (BI _);refine ⟨.ref s.heap.objs.size,upd H s.heap.objs.size (.dK kvs),I.laid (t':=tk) hk (BI _) ?_,rfl,q _ hf⟩;exact ⟨hz,CB.mpr (B1 (BS I.big)),ps,kv,hd⟩
theorem xv {prog:Program}{w:World}{A:Around}{bs:List Bool}:TruthOf prog w A (fun i v=>(bs.map fun b=>Value.bool b).toArray[i]?=some v) (fun i=>bs.getD i false):=by
 intro i v s Q E hP hQ;have hP':(bs.map fun b=>Value.bool b)[i]?=some v:=by simpa using hP
 rw [BN] at hP';cases e:bs[i]? with
 | none=>rw [e] at hP'; cases hP'
 | some b =>
  rw [e] at hP';cases hP';have:bs.getD i false=b:=by rw [Cu,e]; rfl
  have hQ:Q (bs.getD i false) s:=hQ;rw [this] at hQ;exact BG hQ
theorem xw (bs:List Bool):((List.range bs.length).all fun i=>bs.getD i false)=bs.all id:=by
 rw [Bool.eq_iff_iff,List.all_eq_true,List.all_eq_true]
 constructor
 ·intro h b hb
  obtain ⟨i,hi,rfl⟩:=List.mem_iff_getElem.mp hb;have:=h i (Cj.mpr hi);rw [Cu,BJ hi] at this;exact this
 ·intro h i hi
  have hi:=Cj.mp hi;rw [Cu,BJ hi];exact h _ (List.getElem_mem hi)
theorem nJ:∀ {bs:List Bool}{its:List Value},Vals (bs.map V.bl) its->its=bs.map fun b=>Value.bool b
 | [],_,.nil=>rfl
 | b :: bs,_,.cons r t=>by rw [B4,nJ t]; cases r; rfl
theorem cX (hc:X.calm=true):CallR X (.builtin "all") (fun xs H Q=>∃ (p:Addr) (bs:List Bool),xs=[.ref p]/\H p=some (.lst (bs.map V.bl))/\Q (.bl (bs.all id)) H):=by
 intro pins s σ H xs us Q I r h;obtain ⟨p,bs,rfl,hp,q⟩:=h;obtain ⟨u,rfl,ru⟩:=vals1 r;cases ru;obtain ⟨z,its,n,rv,e⟩:=I.hok p _ hp;have ei:=nJ rv;subst ei;have hl:s.heap.IsList p (bs.map fun b=>Value.bool b).toArray:=⟨_,e,rfl,n,rfl⟩
 refine call_all_walk (CL hl ?_);have hne:p≠s.heap.objs.size:=BS (BM e);refine ⟨s.heap.objs.size,_,_,_,_,_,_,rfl,Walks.list (by first | exact I.ok.hd hc | (show X.A.in1.handled=none; exact I.ok.hd hc)) s.heap.objs.size p hne (bs.map fun b=>Value.bool b).toArray,
  ⟨⟨_,B3 _ rfl,rfl,rfl⟩,⟨_,BK _ e,rfl,n,rfl⟩⟩,xv,fun h' tk hk=>?_⟩
 have sz:(bs.map fun b=>Value.bool b).toArray.size=bs.length:=by simp
 rw [sz,xw];exact ⟨.bl (bs.all id),H,I.kept (t':=tk) fun b o eb=>hk b o (by simp; exact BS (BM eb)) (BK _ eb),rfl,q⟩
end
end L2

namespace L2
open PySem PySem.Spec PyProof.Rows
section
variable {X:Cx}{pins:List (Addr × Obj)}{σ:St}{H:Hp}{s:Shared}{A:Around}{E:Value->Shared->Prop}{Q:Value->Shared->Prop}{b:Bool}
theorem xy {x:V}{u t:Value}{tp:Addr}{its:List Value}{o:Obj}{n:Nat} (I:Inv X pins σ H s) (rx:RelV x u) (ty:TyOf X.K H x t) (ho:s.heap.get? tp=some o) (hoc:o.cls=.type "tuple") (hod:o.data=.seq its.toArray n)
  (e:PySem.W.kitAny X.K t its=some b) (h:∀ tk,Q (.bool b) { s with toks:=tk }) :
  wpAny (model X.prog X.w) A (call (.builtin "isinstance") [u,.ref tp]) Q E s:=by
 obtain ⟨c0,d0,t0,l0⟩:=o
 replace hoc:c0=.type "tuple" := hoc
 replace hod:t0=.seq its.toArray n:=hod
 subst hoc hod;cases ty with
 | non=>cases (show u=Value.none from rx); exact C2 PySem.W.kitx_none I.kIn True.intro ho e (fun z=>nomatch z) h
 | bl y=>cases (show u=Value.bool y from rx); exact C2 PySem.W.kitx_bool I.kIn True.intro ho e (fun z=>nomatch z) h
 | int i=>obtain ⟨t,q⟩:=(show ∃ t,u=Value.int i t from rx); cases q; exact C2 PySem.W.kitx_int I.kIn True.intro ho e (fun z=>nomatch z) h
 | str y=>obtain ⟨t,q⟩:=(show ∃ t,u=Value.str y t from rx); cases q; exact C2 PySem.W.kitx_str I.kIn True.intro ho e (fun z=>nomatch z) h
 | flt y=>obtain ⟨t,q⟩:=(show ∃ t,u=Value.float y t from rx); cases q; exact C2 PySem.W.kitx_float I.kIn True.intro ho e (fun z=>nomatch z) h
 | @lst a xs ea =>
  cases (show u=Value.ref a from rx);obtain ⟨_,_,n,_,h1⟩:=(show ObjOk X.prog X.w H s.heap a (.lst xs) from I.hok a _ ea);exact C2 PySem.W.kitx_list I.kIn ⟨_,h1,rfl⟩ ho e (fun z=>nomatch z) h
 | @frz a ob xs ea =>
  cases (show u=Value.ref a from rx);obtain ⟨_,_,_,n,_,h1⟩:=(show ObjOk X.prog X.w H s.heap a (.frz ob (.lst xs)) from I.hok a _ ea);exact C2 PySem.W.kitx_list I.kIn ⟨_,h1,rfl⟩ ho e (fun z=>nomatch z) h
 | @tup a xs ea =>
  cases (show u=Value.ref a from rx);obtain ⟨_,_,_,p⟩:=(show ObjOk X.prog X.w H s.heap a (.tup xs) from I.hok a _ ea);obtain ⟨o,h1,h2,_⟩:=p;exact C2 PySem.W.kitx_tuple I.kIn ⟨o,h1,h2⟩ ho e (fun z=>nomatch z) h
 | @dK a kvs ea =>
  cases (show u=Value.ref a from rx);obtain ⟨_,_,vs,_,p⟩:=(show ObjOk X.prog X.w H s.heap a (.dK kvs) from I.hok a _ ea);obtain ⟨o,es,ep,h1,h2,_⟩:=p;exact C2 PySem.W.kitx_dict I.kIn ⟨o,h1,h2.1⟩ ho e (fun z=>nomatch z) h
 | @dT a kvs ea =>
  cases (show u=Value.ref a from rx);obtain ⟨_,_,xs,_,o,es,ep,h1,h2,_⟩:=(show ObjOk X.prog X.w H s.heap a (.dT kvs) from I.hok a _ ea);exact C2 PySem.W.kitx_dict I.kIn ⟨o,h1,h2.1⟩ ho e (fun z=>nomatch z) h
 | @ins a C dx fs ea cl ha hn htk hm =>
  cases (show u=Value.ref a from rx);obtain ⟨mA,O,_⟩:=fj I.hok ea;obtain ⟨od,J,_⟩:=O.look;exact C2 (PySem.W.kitx_own (cl.get _) cl.hd ha hn htk hm) I.kIn J ho e (fun z=>nomatch z) h
end
def rIsTs (K:PySem.W.Frag):List V->Hp->VK->Prop:=fun xs H Q=>∃ (x:V) (p:Addr) (Ts:List String) (t:Value) (b:Bool),xs=[x,.ref p]/\H p=some (.tup (Ts.map V.ty))/\TyOf K H x t/\PySem.W.kitAny K t (Ts.map Value.type)=some b/\Q (.bl b) H
theorem nM:∀ {Ts:List String}{us:List Value},Vals (Ts.map V.ty) us->us=Ts.map Value.type
 | [],_,.nil=>rfl
 | T :: Ts,_,.cons r t=>by rw [B4,nM t]; cases r; rfl
theorem xA {X:Cx}:CallR X (.builtin "isinstance") (rIsTs X.K):=by
 intro pins s σ H xs us Q I r h;obtain ⟨x,p,Ts,t,b,rfl,hp,ty,e,q⟩:=h;obtain ⟨u,v,rfl,ru,rv⟩:=vals2 r;cases rv;obtain ⟨_,its,rt,o,ho,hoc,n,hod⟩:=I.hok p _ hp;have:=nM rt;subst this;exact xy I ru ty ho hoc hod e fun tk=>⟨.bl b,H,I.tok _,rfl,q⟩
example (K:PySem.W.Frag):PySem.W.kitAny K (.type "list") [.type "list",.type "tuple"]=some true:=rfl
example (K:PySem.W.Frag):PySem.W.kitAny K (.type "tuple") [.type "list",.type "tuple"]=some true:=rfl
example (K:PySem.W.Frag):PySem.W.kitAny K (.type "int") [.type "list",.type "tuple"]=some false:=rfl
end L2

namespace L2
open PySem PySem.Spec PyProof.Rows
variable{P:Program}{w:World}{K:PySem.W.Frag}{mg:Str->Option Value}{base:Heap}{CX:CXT}{j k:Nat}{C b:Addr}{ps:List Str}{sp:Sp}{pl:Sem Bool}{trs:List (TE × TE)}{H H':Hp}
structure MethOk (P:Program) (w:World) (K:PySem.W.Frag) (mg:Str->Option Value) (base:Heap) (CX:CXT) (k:Nat) (C:Addr) (m:Str) (ps:List Str) (sp:Sp):Prop where
 cl:Cls K C
 ex:∃ (f:Addr) (fd:FuncData),FnOk P w K mg base CX k f fd ps sp/\Binds K fd ps []/\Meth K C m f
theorem MethOk.mono{j:Nat}{m:Str} (D:MethOk P w K mg base CX j C m ps sp) (h:j<=k):MethOk P w K mg base CX k C m ps sp:=by
 obtain ⟨f,fd,F,b⟩:=D.ex;exact ⟨D.cl,f,fd,F.mono h,b⟩
structure MakeOk (P:Program) (w:World) (K:PySem.W.Frag) (mg:Str->Option Value) (base:Heap) (CX:CXT) (k:Nat) (C:Addr) (x:Str) (ps:List Str) (sp:Sp):Prop where
 ex:∃ (f:Addr) (fd:FuncData),FnOk P w K mg base CX k f fd ps sp/\Binds K fd ps []/\Mk K C f/\mg x=some (.ref C)
theorem MakeOk.mono{j:Nat}{x:Str} (D:MakeOk P w K mg base CX j C x ps sp) (h:j<=k):MakeOk P w K mg base CX k C x ps sp:=by
 obtain ⟨f,fd,F,b⟩:=D.ex;exact ⟨f,fd,F.mono h,b⟩
section
variable {X:Cx}{CX:CXT}{k:Nat}{C:Addr}{ps:List Str}{sp:Sp}{E:XK}{x m:Str}{p pos apos:Pos}{e o:Expr}{es:List Expr}{ta:TE}{t:TA}
theorem nP {pl:Sem Bool} (he:Pr (PE X o ta)) (D:MethOk X.prog X.w X.K X.mg X.base CX k C m ps sp) (hr:Room k X.A) (hx:Passes CX X E) (ha:Pr (PA X (e :: es) t))
  (hst:starEach (e :: es) X.env=(false,eval e X.env) :: starEach es X.env:=by rfl) (hpl:(backTo pos (starEach es X.env)).any (·.1)=false:=by rfl)
  (ht:eval (.Call (.Attribute o m apos) (e :: es) [] pos) X.env=(do
   let ov <- eval o X.env
   standAt apos.atName
   let (f,first) <- holding [ov] (getMethod ov m pl)
   callWith pos f first (backTo pos (starEach (e :: es) X.env)) (backToKw pos (keywordEach [] X.env))):=by rfl) :
  Pr (PE X (.Call (.Attribute o m apos) (e :: es) [] pos) (tMeth C m sp [] E ta t)):=by
 obtain ⟨f,fd,F,b,hm⟩:=D.ex;exact ⟨vg he.h D.cl hm F hr b .nil hx ha.h hst hpl ht⟩
theorem gr {pl:Sem Bool} (he:Pr (PE X o ta)) (D:MethOk X.prog X.w X.K X.mg X.base CX k C m ps sp) (hr:Room k X.A) (hx:Passes CX X E)
  (ht:eval (.Call (.Attribute o m apos) [] [] pos) X.env=(do
   let ov <- eval o X.env
   standAt apos.atName
   let (f,first) <- holding [ov] (getMethod ov m pl)
   callWith pos f first (backTo pos (starEach [] X.env)) (backToKw pos (keywordEach [] X.env))):=by rfl) :
  Pr (PE X (.Call (.Attribute o m apos) [] [] pos) (tMeth C m sp [] E ta tNil)):=by
 obtain ⟨f,fd,F,b,hm⟩:=D.ex;exact ⟨vh he.h D.cl hm F hr b .nil hx ht⟩
theorem gu (D:MakeOk X.prog X.w X.K X.mg X.base CX k C x ps sp) (hr:Room (k + 1) X.A) (hg:Gl X x) (hx:Passes CX X E)
  (ha:Pr (PA X (e :: es) t)) (hdb:(x == ("__debug__" : Str))=false:=by decide) (he:starEach (e :: es) X.env=(false,eval e X.env) :: starEach es X.env:=by rfl) (hpl:(backTo pos (starEach es X.env)).any (·.1)=false:=by rfl) :
  Pr (PE X (.Call (.Name x p) (e :: es) [] pos) (tMake C sp [] E t)):=by
 obtain ⟨f,fd,F,b,M,hm⟩:=D.ex;exact ⟨vj M F hr hg hm b .nil hx ha.h hdb he hpl⟩
end
section
variable {X:Cx}{sc:Scope}{own:List Str}{fr:List Nat}{N':List Str}{tg elt iter:Expr}{ifs:List Expr}{g:TG}{tt:TT}{te:TE}{wi:TI}{pos:Pos}
theorem aU:Pr (PIf X [] tYes):=⟨wY⟩
theorem dG {c:Expr}{t:TT} (h:Pr (PT X c t)):Pr (PIf X [c] t):=⟨wZ h.h⟩
theorem aR (hc:X.calm=true) (cs:CompOk sc X.env.scope own X.N fr N') (hi:Pr (PI X tg iter wi)) (hg:∀ cl C s H fp,Pr (PG (cxC X sc cl N' C s H fp) tg g)) (hif:∀ cl C s H fp,Pr (PIf (cxC X sc cl N' C s H fp) ifs tt))
  (he:∀ cl C s H fp,Pr (PE (cxC X sc cl N' C s H fp) elt te)) (hs:∀ x,foldedSetIterable iter X.env x=pure x:=by intro _; rfl):Pr (PE X (.ListComp elt [⟨tg,iter,ifs,0⟩] sc pos) (tComp own.length fr wi g tt te)) :=
 ⟨xa hc cs hi.h (fun a b c d e=>(hg a b c d e).h) (fun a b c d e=>(hif a b c d e).h) (fun a b c d e=>(he a b c d e).h) hs⟩
theorem eA {i:Nat}{y:Str}{py spos:Pos} (hN:X.N.Nodup) (hy:X.N[i]?=some y) (hx:Loc X.env.scope y) (hc:X.calm=true) (cs:CompOk sc X.env.scope own X.N fr N') (hi:Pr (PI X tg iter wi))
  (hg:∀ cl C s H fp,Pr (PG (cxC X sc cl N' C s H fp) tg g)) (hif:∀ cl C s H fp,Pr (PIf (cxC X sc cl N' C s H fp) ifs tt)) (he:∀ cl C s H fp,Pr (PE (cxC X sc cl N' C s H fp) elt te))
  (hsw:swapsWith (.ListComp elt [⟨tg,iter,ifs,0⟩] sc pos) (some (.Name y py)) spos.line X.env=pure true) (hfn:X.fn y=true\/X.env.scope.names.lookup y=some .local:=by first | exact .inl rfl | exact .inr rfl | assumption) (hs:∀ x,foldedSetIterable iter X.env x=pure x:=by intro _; rfl) :
  Pr (PS X (.Assign [.Name y py] (.ListComp elt [⟨tg,iter,ifs,0⟩] sc pos) spos) (tSetC i own.length fr wi g tt te)) :=
 ⟨xb hN hy hx hc cs hi.h (fun a b c d e=>(hg a b c d e).h) (fun a b c d e=>(hif a b c d e).h) (fun a b c d e=>(he a b c d e).h) hsw hfn hs⟩
theorem fA (k:SK) {elts:List Expr}{kk:Nat}{tpos:Pos}{a:Expr}{ta:TA}{p pos:Pos} (hg:Gl X "enumerate") (hm:X.mg "enumerate" = none) (ha:Pr (PA X [a] ta)) (hs:starEach [a] X.env=[(false,eval a X.env)]:=by rfl) :
  Pr (PI X (.Tuple elts kk tpos) (.Call (.Name "enumerate" p) [a] [] pos) (iEnum X.K k ta)):=⟨xm k hg hm ha.h hs⟩
theorem eU:Pr (PPs X pos [] [] []):=⟨wg⟩
theorem bU {k v:Expr}{ks:List (Option Expr)}{vs:List Expr}{tk tv:TE} (hk:Pr (PE X k tk)) (hv:Pr (PE X v tv)) (hr:Pr (PPs X pos ks vs trs)):Pr (PPs X pos (some k :: ks) (v :: vs) ((tk,tv) :: trs)):=⟨wj hk.h hv.h hr.h⟩
theorem eV {keys:List (Option Expr)}{values:List Expr} (h:Pr (PPs X pos keys values trs)) (hall:keys.all (·.isSome)=true) (hl:keys.length=values.length) (h0:keys≠[])
  (h15:keys.length<=15):Pr (PE X (.Dict keys values pos) (tDisp trs)):=⟨wx h.h hall hl h0 h15⟩
theorem xB:Pr (PE X (.Dict [] [] pos) tDNewK):=⟨we⟩
theorem cO {st:Stmt}:Pr (PS X st tNever):=⟨uh⟩
theorem compOk {sc outer:Scope}{own N:List Str}{fr:List Nat}{N':List Str} (h1:sc.kind=.function) (h2:∀ y∈sc.names,y.2≠.cell) (h3:∀ y∈sc.names,y.2=.local->sc.names.lookup y.1=some .local)
  (h4:∀ y∈sc.names,y.2=.free->outer.names.lookup y.1=some .cell\/outer.names.lookup y.1=some .free) (h5:N'.Nodup) (h6:N'.map some=own.map some++fr.map fun j=>N[j]?)
  (h7:∀ x∈fr.filterMap (fun j=>N[j]?),sc.names.lookup x=some .free/\(outer.names.lookup x=some .cell\/outer.names.lookup x=some .free)):CompOk sc outer own N fr N' :=
 ⟨h1,h2,h3,h4,h5,h6,fun j hj x hx=>h7 x (Dv.mpr ⟨j,hj,hx⟩)⟩
end
def rIsT2 (K:PySem.W.Frag):List V->Hp->VK->Prop:=fun xs H Q=>∃ (x:V) (p:Addr) (T1 T2:String) (t:Value) (b:Bool),xs=[x,.ref p]/\H p=some (.tup [.ty T1,.ty T2])/\TyOf K H x t/\PySem.W.kitAny K t [.type T1,.type T2]=some b/\Q (.bl b) H
theorem xC {X:Cx}:CallR X (.builtin "isinstance") (rIsT2 X.K):=fun pins s σ H xs us Q I r h=>by
 obtain ⟨x,p,T1,T2,t,b,e,hp,ty,k,q⟩:=h;exact xA pins s σ H xs us Q I r ⟨x,p,[T1,T2],t,b,e,hp,ty,k,q⟩
theorem iteNn {c:Prop} [Decidable c] {A B:Prop} (hc:c) (h:B):if (!decide c)=true then A else B:=by rw [if_neg (by simp [hc])]; exact h
def Tu (H H':Hp):Prop:=∀ b xs,H b=some (.tup xs)->H' b=some (.tup xs)
theorem Tu.trans {H1 H2:Hp} (a:Tu H H1) (b:Tu H1 H2):Tu H H2:=fun c xs h=>b c xs (a c xs h)
theorem Tu.same (c:Ch [] H H'):Tu H H':=fun b xs h=>c b _ h (by simp)
theorem Tu.ch{b:Addr}{o:HO} (c:Ch [b] H H') (hb:H b=some o) (ho:∀ xs,o≠.tup xs):Tu H H':=fun d xs h=>c d _ h (by
 intro z;have e:d=b:=by simpa using z
 subst e;rw [hb] at h;exact ho xs (Ca h))
theorem Tu.lst{b:Addr}{ys:List V} (c:Ch [b] H H') (hb:H b=some (.lst ys)):Tu H H':=Tu.ch c hb (fun xs z=>by cases z)
theorem Tu.new{p:Addr} (o:HO) (h:H p=none):Tu H (upd H p o):=Tu.same (Ch.new h o)
end L2

namespace L2
open PySem PySem.Spec PyProof.Rows
section
variable {X:Cx}{a b o e value:Expr}{es:List Expr}{f:Str}{ta tb te:TE}{pos:Pos}{tg l:Expr}
theorem gv (K:PySem.W.Frag) (hK:X.K=K):IxR X (aIxL K):=hK ▸ bR
theorem cY (K:PySem.W.Frag) (hK:X.K=K):IxR X (aIxT K):=hK ▸ az
theorem xD (K:PySem.W.Frag) (hK:X.K=K):CallR X (.builtin "len") (fun xs H Q=>∃ p ys,xs=[.ref p]/\(SqL K H p ys\/SqT K H p ys)/\Q (.int ys.length) H):=hK ▸ aJ
theorem xE (K:PySem.W.Frag) (hK:X.K=K):OpR X (compareOp .In) (rIn K false):=hK ▸ vL
theorem xF (K:PySem.W.Frag) (hK:X.K=K) (he:Pr (PE X e ta)) (hb:attributeBase e f X.env (eval e X.env)=eval e X.env):Pr (PE X (.Attribute e f pos) (tFld K ta f)):=hK ▸ ⟨mr he.h hb⟩
theorem xG (K:PySem.W.Frag) (hK:X.K=K) {tl:TE} (hl:Pr (PE X l tl)):Pr (PI X tg l (iList K tl)):=hK ▸ ⟨lV hl.h⟩
theorem xH (K:PySem.W.Frag) (hK:X.K=K) {tl:TE} (hl:Pr (PE X l tl)):Pr (PI X tg l (iTup K tl)):=hK ▸ ⟨lX hl.h⟩
theorem bP (K:PySem.W.Frag) (n:Nat) (hK:X.K=K) {k:Nat}{t:TGs} (hc:X.calm=true) (h:Pr (PGs X es t)) (hn:(assignEach es X.env).length=n:=by rfl) (hst:(assignEach es X.env).findIdx? (·.1)=none:=by rfl) :
  Pr (PG X (.Tuple es k pos) (gTup K n t)):=hK ▸ ⟨lU hc h.h hn hst⟩
end
end L2

namespace L2
open PySem PySem.Spec PyProof.Rows PySem.SeqAt
theorem nQ:∀ {ns:List Int}{its:List Value},Vals (ns.map V.int) its->∃ ps:List (Int × Tok),its=ps.map (fun p=>Value.int p.1 p.2)/\ps.map (·.1)=ns
 | [],_,.nil=>⟨[],rfl,rfl⟩
 | n :: ns,_,.cons r t=>by
  obtain ⟨ps,e,f⟩:=nQ t;obtain ⟨k,rfl⟩:=r;exact ⟨(n,k) :: ps,by rw [e]; rfl,by rw [<- f]; rfl⟩
section
variable {X:Cx}
theorem xI (hc:X.calm=true):CallR X (.builtin "sum") (fun xs H Q=>∃ (p:Addr) (ns:List Int),xs=[.ref p]/\H p=some (.lst (ns.map V.int))/\Q (.int ns.sum) H):=by
 intro pins s σ H xs us Q I r h;obtain ⟨p,ns,rfl,hp,q⟩:=h;obtain ⟨u,rfl,ru⟩:=vals1 r;cases ru;obtain ⟨z,its,n,rv,e⟩:=I.hok p _ hp;obtain ⟨ps,rfl,f⟩:=nQ rv;have ea:(ps.map fun p=>Value.int p.1 p.2).toArray=intItems ps.toArray:=by simp [intItems]
 have hl:s.heap.IsList p (intItems ps.toArray):=⟨_,e,rfl,n,by rw [<- ea]⟩
 refine sum_intListG (by first | exact I.ok.hd hc | (show X.A.in1.handled=none; exact I.ok.hd hc)) hl fun h' tk t' hk=>?_
 refine ⟨.int ns.sum,H,I.kept (t':=tk) hk,⟨t',?_⟩,q⟩;rw [preSum_eq,List.take_of_length_le (by simp)]
 show Value.int (ps.map (·.1)).sum t'=_;rw [f]
end
end L2

namespace L2
open PySem PySem.Spec PyProof.Rows PySem.SeqAt
def Sca (x:V):Prop:=(∃ i,x=.int i)\/∃ t,x=.str t
structure ScaL (xs:List V):Prop where
 h:∀ z∈xs,Sca z
theorem xJ {α:Type} [BEq α] [LawfulBEq α] [DecidableEq α] (a b:α):(a == b)=decide (a=b):=by
 by_cases h:a=b
 ·subst h; simp
 ·rw [Cv h]; exact CB.mpr h
theorem nU {A:Around}{s:Shared}{x y:V}{u v:Value} (hx:Sca x) (hy:Sca y) (ru:RelV x u) (rv:RelV y v):EqAt A s u v (decide (x=y)):=by
 rcases hx with ⟨i,rfl⟩ | ⟨i,rfl⟩ <;> rcases hy with ⟨j,rfl⟩ | ⟨j,rfl⟩ <;> obtain ⟨t,rfl⟩:=ru <;> obtain ⟨t',rfl⟩:=rv
 ·have:=EqAt.int_int (A:=A) (s:=s) i t j t'
  rw [xJ] at this
  rwa [show decide (V.int i=V.int j)=decide (i=j) from by by_cases h:i=j <;> simp [h]]
 ·rw [show decide (V.int i=V.str j)=false from by simp]
  exact EqAt.int_str i t j t'
 ·rw [show decide (V.str i=V.int j)=false from by simp]
  exact EqAt.str_int i t j t'
 ·have:=EqAt.str_str (A:=A) (s:=s) i t j t'
  rw [show decide (V.str i=V.str j)=(i == j) from by
   by_cases h:i=j
   ·subst h; simp
   ·rw [Cv (fun z=>h (V.str.inj z))]; exact (CB.mpr h).symm]
  exact this
theorem jb {xs ys:List V}:((List.range (min xs.length ys.length)).all (fun j=>decide (xs[j]?=ys[j]?)) && xs.length == ys.length)=decide (xs=ys):=by
 by_cases h:xs=ys
 ·subst h
  simp
 ·rw [Cv h]
  by_cases hl:xs.length=ys.length
  ·rw [Bool.and_eq_false_iff]
   refine .inl ?_;rw [List.all_eq_false];refine Dm fun z=>h (List.ext_getElem? fun j=>?_)
   by_cases hj:j < xs.length
   ·refine Dm fun y=>z ⟨j,Cj.mpr (by omega),by simpa using y⟩
   ·rw [Dp (by omega),Dp (by omega)]
  ·rw [Bool.and_eq_false_iff]
   exact .inr (CB.mpr hl)
theorem jc {A:Around}{s:Shared}{xs ys:List V}{us vs:List Value} (hx:ScaL xs) (hy:ScaL ys) (ru:Vals xs us) (rv:Vals ys vs) (j:Nat) (h1:j < us.toArray.size) (h2:j < vs.toArray.size) :
  EqAt A s us.toArray[j] vs.toArray[j] (decide (xs[j]?=ys[j]?)):=by
 have l1:=ru.length;have l2:=rv.length;have h1':j < us.length:=by simpa using h1
 have h2':j < vs.length:=by simpa using h2
 have gx:xs[j]?=some (xs[j]'(by omega)):=BJ (by omega)
 have gy:ys[j]?=some (ys[j]'(by omega)):=BJ (by omega)
 obtain ⟨w1,hw1,r1⟩:=ru.get gx;obtain ⟨w2,hw2,r2⟩:=rv.get gy;have k1:us.toArray[j]=w1:=by
  have:=BJ h1';rw [hw1] at this
  simpa using (Ca this).symm
 have k2:vs.toArray[j]=w2:=by
  have:=BJ h2';rw [hw2] at this
  simpa using (Ca this).symm
 rw [k1,k2,gx,gy];have e:decide (some (xs[j]'(by omega))=some (ys[j]'(by omega)))=decide (xs[j]'(by omega)=ys[j]'(by omega)):=by
  by_cases h:(xs[j]'(by omega))=(ys[j]'(by omega)) <;> simp [h]
 rw [e];exact nU (hx.h _ (List.getElem_mem _)) (hy.h _ (List.getElem_mem _)) r1 r2
section
variable {X:Cx}
def rEqT:R2:=fun x y H Q=>∃ (a b:Addr) (xs ys:List V),x=.ref a/\y=.ref b/\H a=some (.tup xs)/\H b=some (.tup ys)/\ScaL xs/\ScaL ys/\Q (.bl (decide (xs=ys))) H
theorem xK (hu:X.A.units + 64 < cLine):OpR X (compareOp .Eq) rEqT:=by
 intro pins s σ H x y v u Q I rx ry h;obtain ⟨a,b,xs,ys,rfl,rfl,ha,hb,hx,hy,q⟩:=h;cases rx;cases ry;obtain ⟨z,its,rv,t1⟩:=I.hok a _ ha;obtain ⟨z2,its2,rv2,t2⟩:=I.hok b _ hb;have key:=RcAt.tuples (A:=X.A) (s:=s) t1 t2 (by omega) (jc hx hy rv rv2)
 have e:((List.range (min its.toArray.size its2.toArray.size)).all (fun j=>decide (xs[j]?=ys[j]?)) && its.toArray.size == its2.toArray.size)=decide (xs=ys):=by
  rw [<- jb,BZ,BZ,<- rv.length,<- rv2.length]
 rw [e] at key;exact key X.prog X.w X.xe _ ⟨.bl _,H,I,rfl,q⟩
def rNeS:R2:=fun x y H Q=>∃ (a b:Addr) (xs ys:List V),x=.ref a/\y=.ref b/\H a=some (.lst xs)/\H b=some (.lst ys)/\ScaL xs/\ScaL ys/\Q (.bl (!decide (xs=ys))) H
theorem jd (hu:X.A.units + 64 < cLine):OpR X (compareOp .NotEq) rNeS:=by
 intro pins s σ H x y v u Q I rx ry h;obtain ⟨a,b,xs,ys,rfl,rfl,ha,hb,hx,hy,q⟩:=h;cases rx;cases ry;obtain ⟨z,its,n,rv,e⟩:=I.hok a _ ha;obtain ⟨z2,its2,n2,rv2,e2⟩:=I.hok b _ hb;have i1:s.heap.IsList a its.toArray:=⟨_,e,rfl,n,rfl⟩;have i2:s.heap.IsList b its2.toArray:=⟨_,e2,rfl,n2,rfl⟩
 by_cases hl:xs.length=ys.length
 ·have key:=RcNeAt.lists (A:=X.A) (s:=s) i1 i2 (by simp [<- rv.length,<- rv2.length,hl]) (by omega) (jc hx hy rv rv2)
  have ea:((List.range its.toArray.size).all (fun j=>decide (xs[j]?=ys[j]?)))=decide (xs=ys):=by
   rw [<- jb,BZ,<- rv.length,<- hl,Nat.min_self]; simp
  rw [ea] at key;exact key X.prog X.w X.xe _ ⟨.bl _,H,I,rfl,q⟩
 ·have key:=RcNeAt.lists_lengths (A:=X.A) (s:=s) i1 i2 (by simp [<- rv.length,<- rv2.length,hl]) (by omega)
  have ea:decide (xs=ys)=false:=Cv fun z=>hl (by rw [z])
  rw [ea] at q;exact key X.prog X.w X.xe _ ⟨.bl _,H,I,rfl,q⟩
end
end L2


namespace L2
open PySem PySem.W PyProof.Rows PySem.Calls
def KeptBut (a:Addr) (h h':Heap):Prop:=∀ b o,b≠a->h.get? b=some o->h'.get? b=some o
end L2

namespace L2
open PySem PySem.W PyProof.Rows
structure DAt (h:Heap) (d:Addr) (es:Array DictEntry) (ep:Nat):Prop where
 ex:∃ o,h.get? d=some o/\o.ExactDict/\o.data=.dict es ep
theorem DAt.at {h h':Heap}{d:Addr}{es:Array DictEntry}{ep:Nat} (m:DAt h d es ep) (k:∀ o,h.get? d=some o->h'.get? d=some o):DAt h' d es ep:=let ⟨o,e,r⟩:=m.ex; ⟨o,k o e,r⟩
theorem DAt.ty {s:Shared}{d:Addr}{es:Array DictEntry}{ep:Nat} (m:DAt s.heap d es ep):s.TypeIs (.ref d) "dict" := let ⟨o,e,r,_⟩:=m.ex; ⟨o,e,r.1⟩
def kitO (d:Addr) (i n ep:Nat):Obj:={ cls:=.type "dict_keyiterator",data:=.fields #[.ref d,.int i 0,.int n 0,.int ep 0] }
section
variable {prog:Program}{w:World}{A:Around}{E:Value->Shared->Prop}{s:Shared}{d it:Addr}{es:Array DictEntry}{ep i:Nat}
theorem nW {Q:Value->Shared->Prop} (hd:(d == sysModules)=false) (m:DAt s.heap d es ep) (q:Q (.ref s.heap.objs.size) { s with heap:=s.heap.push (kitO d 0 es.size ep) }):wpAny (model prog w) A (pyIter (.ref d)) Q E s:=by
 obtain ⟨o,ho,hc,hdat⟩:=m.ex;refine wpAny_pyIter_slot m.ty F.slot_dict_iter (CW F.slot_dict_iter m.ty F.entry_dict_iter ?_ (F.args_dict_iter_1 _));unfold Builtin.«dict.__iter__» Builtin.Dict.dictSlotNone Builtin.Dict.showsAll;refine BE (BE (wpAny_notOrdered_dict m.ty (BG ?_)));refine BE (m:=Builtin.Dict.addrOf (.ref d)) (BG ?_);rw [if_neg (by rw [hd]; simp)]
 refine BE (BG (BE (wpAny_dictEntries ho hdat (BE (wpAny_dictEpoch ho hdat ?_)))));exact BE (C5 (BG ⟨_,rfl, "dict_keyiterator",_,⟨_,B3 _ rfl,rfl⟩,DD.lookup,by simpa [rawInt,kitO] using q⟩))
theorem je (hit:s.heap.get? it=some (kitO d i es.size ep)):s.TypeIs (.ref it) "dict_keyiterator" := ⟨_,hit,rfl⟩
theorem nX {Q:Option Value->Shared->Prop} (hit:s.heap.get? it=some (kitO d i es.size ep)) (m:DAt s.heap d es ep) (hi:i < es.size)
  (q:∀ h',h'.get? it=some (kitO d (i + 1) es.size ep)->Heap.SameBut it s.heap h'->Q (some (es[i]).key) { s with heap:=h' }):wpAny (model prog w) A (pyNext (.ref it)) Q E s:=by
 obtain ⟨od,hod,hcd,hdd⟩:=m.ex;have T:=je hit;unfold pyNext;refine BE (wpAny_attempt (C9 (name:=Str.ofString "__next__") T DD (CW DD T F.entry_dict_keyiterator_next ?_ (F.args_dict_keyiterator_next_1 _))));refine BE (BG (BE (BE ?_)));refine BE (wpAny_typeNameOfWhole_keyiter T (BG (BE (wpAny_fieldsOf hit rfl ?_))));simp only [show Builtin.Dict_items.ownsTuple "dict_keyiterator" = false from by decide,Ct,Cc]
 show wpAny _ _ (if (Value.ref d == Value.none)=true then _ else _) _ _ s;rw [if_neg (by intro z; cases z)]
 refine BE (BG (BE (wpAny_dictEntries hod hdd ?_)));rw [if_neg (by simp)]
 refine BE (BG (BE (wpAny_dictEpoch hod hdd ?_)));rw [if_neg (by simp)]
 refine BG ?_;simp only [show ¬ ((i:Int) < 0) from by omega,Cc,Dc,Array.getElem?_eq_getElem hi]
 refine BE (BE (wpAny_typeNameOfWhole_keyiter T (BG (BE (wpAny_isOneOf_keyiter T ?_)))));show wpAny _ _ (setField (.ref it) 1 (rawInt ((i:Int) + 1)) >>= _) _ _ s;refine BE (wpAny_setField hit rfl (by simp) ?_)
 have g2:(s.heap.update it (Obj.mapFields (·.setIfInBounds 1 (rawInt ((i:Int) + 1))))).get? it=some (kitO d (i + 1) es.size ep):=by
  rw [Heap.get?_update_self _ hit (Obj.isFreed_of_fields (Obj.data_mapFields rfl _))];rfl
 refine BE (Cz (BE (wpAny_isOneOf_keyiter (s:={ s with heap:=s.heap.update it (Obj.mapFields (·.setIfInBounds 1 (rawInt ((i:Int) + 1)))) }) (je g2) ?_)))
 exact BG (BG ⟨_,rfl,BG (q _ g2 (Heap.SameBut.update ..))⟩)
theorem nY {Q:Option Value->Shared->Prop} (hh:A.handled=none) (hit:s.heap.get? it=some (kitO d es.size es.size ep)) (m:DAt s.heap d es ep)
  (q:∀ h',Heap.ExtBut it s.heap h'->Q none { s with heap:=h' }):wpAny (model prog w) A (pyNext (.ref it)) Q E s:=by
 obtain ⟨od,hod,hcd,hdd⟩:=m.ex;have T:=je hit;unfold pyNext;refine BE (wpAny_attempt (C9 (name:=Str.ofString "__next__") T DD (CW DD T F.entry_dict_keyiterator_next ?_ (F.args_dict_keyiterator_next_1 _))));refine BE (BG (BE (BE ?_)));refine BE (wpAny_typeNameOfWhole_keyiter T (BG (BE (wpAny_fieldsOf hit rfl ?_))));simp only [show Builtin.Dict_items.ownsTuple "dict_keyiterator" = false from by decide,Ct,Cc]
 show wpAny _ _ (if (Value.ref d == Value.none)=true then _ else _) _ _ s;rw [if_neg (by intro z; cases z)]
 refine BE (BG (BE (wpAny_dictEntries hod hdd ?_)));rw [if_neg (by simp)]
 refine BE (BG (BE (wpAny_dictEpoch hod hdd ?_)));rw [if_neg (by simp)]
 refine BG ?_;simp only [show ¬ ((es.size:Int) < 0) from by omega,Cc,Dc,Array.getElem?_eq_none (BI es.size)]
 refine BE (BE (wpAny_typeNameOfWhole_keyiter T (BG ?_)));show wpAny _ _ (setField (.ref it) 0 .none >>= _) _ _ s;refine BE (wpAny_setField hit rfl (by simp) ?_)
 show wpAny _ _ (newExc (.type "StopIteration") [] >>= _) _ _ _;simp only [newExc,newTuple];refine BE (BE (C5 ?_ (by size_fits)))
 refine BE (m:=firstArgMember _ _) (wpAny_of_eq (a:=Value.none) (by first | rfl | (simp only [firstArgMember]; rfl)) (C5 ?_ (by size_fits)))
 simp only [raiseNew];refine BE (wpAny_handled ?_);rw [show A.in1.handled=none from hh];refine BE (BG (wpAny_throw ?_));refine BE (wpAny_isInstance (T := "StopIteration") (b:=true) ⟨_,B3 _ rfl,rfl⟩ isSubtype_stop ?_);exact BG (q _ (((Heap.SameBut.update ..).extBut.push _).push _))
end
section
variable {prog:Program}{w:World}{A:Around}{R:Result->Shared->Prop}{d it S:Addr}{es:Array DictEntry}{ep:Nat}
theorem xM (hh:A.handled=none) (n1:S≠it) (n2:S≠d) (n3:it≠d) (hsz:es.size<=sizeLine) (res:Value) (g:Heap):∀ (k i:Nat) (s:Shared) (c:Nat),es.size - i=k->i<=es.size ->
  s.heap.get? it=some (kitO d i es.size ep)->DAt s.heap d es ep->s.heap.get? S=some { cls:=.type "list",data:=.seq ((es.toList.take i).map (·.key)).toArray c } ->
  (∀ b o,b≠it->b≠S->g.get? b=some o->s.heap.get? b=some o) ->
  (∀ (h':Heap) (c':Nat),h'.get? S=some { cls:=.type "list",data:=.seq (es.toList.map (·.key)).toArray c' }->(∀ b o,b≠it->b≠S->g.get? b=some o->h'.get? b=some o)->R (.ok (.ret res)) { s with heap:=h' }) ->
  codeAny (model prog w) A (.builtin "list.extend.loop" ⟨[.ref S,.ref it,res],[]⟩) R s:=by
 intro k
 induction k with
 | zero =>
  intro i s c hk hi hit m hS hg hR;have e:i=es.size:=by omega
  subst e;refine C0 F.entry_extend_loop ?_;rw [Dl F.plain_extend_loop _];show wpAny _ A.in1 (pyNext (.ref it) >>= _) _ _ s;refine BE (nY (by exact hh) hit m fun h' x=>BG (hR h' c ?_ fun b o b1 b2 e=>x b o b1 (hg b o b1 b2 e)))
  rw [x S _ n1 hS,List.take_of_length_le (by simp)]
 | succ k ih =>
  intro i s c hk hi hit m hS hg hR;have hlt:i < es.size:=by omega
  refine C0 F.entry_extend_loop ?_;rw [Dl F.plain_extend_loop _];show wpAny _ A.in1 (pyNext (.ref it) >>= _) _ _ s;refine BE (nX hit m hlt fun h' a b=>?_)
  have hS':h'.get? S=some { cls:=.type "list",data:=.seq ((es.toList.take i).map (·.key)).toArray c }:=(b.2 S n1).trans hS;refine BE (wpAny_updateSeq hS' rfl (BG ⟨plainId_quiet F.plain_extend_loop _,?_⟩) (by simp; omega) (by simp; omega))
  have oth:∀ b o,b≠S->h'.get? b=some o->(h'.update S (Obj.mapSeq (·.push es[i].key))).get? b=some o:=fun b o hb e=>(Heap.get?_update_other _ _ (B1 hb)).trans e
  have hS2:=Heap.get?_update_self (Obj.mapSeq (·.push es[i].key)) hS' rfl;have ea:((es.toList.take (i + 1)).map (·.key)).toArray=((es.toList.take i).map (·.key)).toArray.push es[i].key:=by
   rw [B0,show es.toList[i]?=some es[i] from by simp [hlt]]
   simp
  refine ih (i + 1) _ _ (by omega) hlt (oth _ _ (B1 n1) a) (m.at fun o e=>oth _ o (B1 n2) ((b.2 d (B1 n3)).trans e)) (by rw [ea]; exact hS2) (fun x o x1 x2 e=>oth x o x2 ((b.2 x x1).trans (hg x o x1 x2 e))) hR
end
end L2

namespace L2
open PySem PySem.W PyProof.Rows
section
variable {prog:Program}{w:World}{A:Around}{E:Value->Shared->Prop}{s:Shared}{d:Addr}{es:Array DictEntry}{ep:Nat}
theorem xN {Q:List Value->Shared->Prop} (hh:A.handled=none) (hd:(d == sysModules)=false) (m:DAt s.heap d es ep) (hsz:es.size<=sizeLine)
  (q:∀ h',(∀ b o,s.heap.get? b=some o->h'.get? b=some o)->s.heap.objs.size < h'.objs.size->Q (es.toList.map (·.key)) { s with heap:=h' }):wpAny (model prog w) A (collect (.ref d)) Q E s:=by
 have dlt:d < s.heap.objs.size:=let ⟨o,e,_⟩:=m.ex; BM e;have nSd:s.heap.objs.size≠d:=CJ dlt;have nSI:s.heap.objs.size≠s.heap.objs.size + 1:=BS (Nat.lt_succ_self _);have nId:s.heap.objs.size + 1≠d:=CJ (Nat.lt_succ_of_lt dlt);unfold collect;refine BE (wpAny_runValue (C0 entry_proto_collect' ?_));show wpAny _ _ (do again (.builtin "list.__iadd__" ⟨[<- newList [],.ref d],[]⟩)) _ _ s
 refine BE (wpAny_newList (BG ⟨Code.quiet_builtin _ (by decide +kernel),C0 entry_list_iadd' ?_⟩))
 show wpAny _ _ (Builtin.List.listExtendWith (.ref s.heap.objs.size) (.ref d) (.ref s.heap.objs.size)) _ _ { s with heap:=s.heap.push (seqObj "list" #[] 0) }
 unfold Builtin.List.listExtendWith;have k1:∀ b o,s.heap.get? b=some o->(s.heap.push (seqObj "list" #[] 0)).get? b=some o:=fun b o e=>BK _ e
 have S1:(s.heap.push (seqObj "list" #[] 0)).get? s.heap.objs.size=some (seqObj "list" #[] 0):=B3 _ rfl;have z1:(s.heap.push (seqObj "list" #[] 0)).objs.size=s.heap.objs.size + 1:=size_push' _ _;generalize hg1:s.heap.push (seqObj "list" #[] 0)=g1 at k1 S1 z1 ⊢;have m1:DAt g1 d es ep:=m.at fun o e=>k1 d o e
 refine BE (wpAny_typeOf (T := "dict") (DAt.ty (s:={ s with heap:=g1 }) m1) ?_)
 have e1:Builtin.List.listSameRef (.ref s.heap.objs.size) (.ref d)=false:=by simp [Builtin.List.listSameRef,nSd]
 have e2:(Value.type "dict" == Value.type "list")=false:=by decide
 have e3:(Value.type "dict" == Value.type "tuple")=false:=by decide
 simp only [e1,e2,e3,Bool.or_false,Ct,Cc];refine BE (nW (s:={ s with heap:=g1 }) hd m1 ?_)
 have k2:∀ b o,g1.get? b=some o->(g1.push (kitO d 0 es.size ep)).get? b=some o:=fun b o e=>BK _ e
 have I2:(g1.push (kitO d 0 es.size ep)).get? g1.objs.size=some (kitO d 0 es.size ep):=B3 _ rfl;show wpAny _ _ (holding [Value.ref g1.objs.size] _ >>= _) _ _ { s with heap:=g1.push (kitO d 0 es.size ep) }
 rw [z1] at I2 ⊢;generalize g1.push (kitO d 0 es.size ep)=g2 at k2 I2 ⊢;have m2:DAt g2 d es ep:=m1.at fun o e=>k2 d o e
 refine BE (Cz (kdl_hint_dict (DAt.ty (s:={ s with heap:=g2 }) m2) ?_))
 show wpAny _ _ (rule "list.extend.makes-room" >>= fun _=>Builtin.List.listTouch (.ref s.heap.objs.size) >>= fun _=>again (.builtin "list.extend.loop" ⟨[.ref s.heap.objs.size,.ref (s.heap.objs.size + 1),.ref s.heap.objs.size],[]⟩)) _ _ _
 refine BE (wpAny_rule (BE ?_));have S2:=k2 _ _ S1;refine BE (listUpdate_at S2 rfl ?_ (Ck _) (by simp [BR]))
 obtain ⟨c3,S3⟩:∃ c3,(g2.update s.heap.objs.size (Obj.mapSeq (·.push Value.none))).get? s.heap.objs.size=some (seqObj "list" #[Value.none] c3):=⟨_,get?_update_seq S2 (·.push Value.none)⟩;refine listUpdate_at S3 rfl ?_ (by simp [BR]) (by simp [BR])
 obtain ⟨c4,S4⟩:∃ c4,((g2.update s.heap.objs.size (Obj.mapSeq (·.push Value.none))).update s.heap.objs.size (Obj.mapSeq (·.pop))).get? s.heap.objs.size=some (seqObj "list" #[] c4):=⟨_,get?_update_seq S3 (·.pop)⟩;have k4:∀ b o,b≠s.heap.objs.size->g2.get? b=some o->((g2.update s.heap.objs.size (Obj.mapSeq (·.push Value.none))).update s.heap.objs.size (Obj.mapSeq (·.pop))).get? b=some o :=
  fun b o nb e=>(Heap.get?_update_other _ _ (B1 nb)).trans ((Heap.get?_update_other _ _ (B1 nb)).trans e)
 generalize (g2.update s.heap.objs.size (Obj.mapSeq (·.push Value.none))).update s.heap.objs.size (Obj.mapSeq (·.pop))=g4 at S4 k4 ⊢;refine BG ⟨plainId_quiet F.plain_extend_loop _,?_⟩;refine xM (S:=s.heap.objs.size) (it:=s.heap.objs.size + 1) (d:=d) (es:=es) (ep:=ep) (by exact hh) nSI nSd nId hsz _ s.heap es.size 0 _ c4 rfl (Ck _) (k4 _ _ (B1 nSI) I2) (m2.at fun o e=>k4 d o (B1 nSd) e) S4
  (fun b o b1 b2 e=>k4 b o b2 (k2 b o (k1 b o e))) fun h' c' hS hk=>?_
 refine BE (wpAny_load hS ?_);exact BG (q h' (fun b o e=>hk b o (BS (Nat.lt_succ_of_lt (BM e))) (BS (BM e)) e) (BM hS))
end
end L2

namespace L2
open PySem PySem.W PyProof.Rows
variable{i:Expr}{pos:Pos}
section
variable {X:Cx}{o e f:Expr}{apos cpos:Pos}{td ty tx:TE}
theorem xO (hu:X.A.units + 1 < cLine) (hi:Pr (PE X i ty)) (ho:Pr (PE X o td)) (h1:behindInMarks .NotIn o=false:=by rfl):Pr (PT X (.Compare i [.NotIn] [o] pos) (tB (tDNotIn ty td))):=⟨tS (wb hu hi.h ho.h) h1⟩
theorem ck (hu:X.A.units + 1 < cLine) (ho:Pr (PE X o td)) (hi:Pr (PE X i ty)) (hs:NoSl i):Pr (PE X (.Subscript o i pos) (tDGet td ty)):=⟨v8 hu ho.h hi.h hs⟩
theorem jf {value:Expr}{tv:TE}{pos':Pos} (hu:X.A.units + 1 < cLine) (ho:Pr (PE X o td)) (hi:Pr (PE X i ty)) (hv:Pr (PE X value tv)) (hs:swapsWith value (some (.Subscript o i pos')) pos.line X.env=pure false) :
  Pr (PS X (.Assign [.Subscript o i pos'] value pos) (sDPut td ty tv)):=⟨wc hu ho.h hi.h hv.h hs⟩
theorem nZ (ho:Pr (PE X o td)) (hbase:attributeBase o "pop" X.env (eval o X.env)=eval o X.env:=by rfl) (hline:(apos.endLine == cpos.line)=true:=by rfl):Pr (PE X (.Call (.Attribute o "pop" apos) [] [] cpos) (tBM0 X.K "list" rPop td)) :=
 ⟨mL Cr PySem.F.slot_list_pop PySem.F.type_list_pop vP ho.h hbase hline⟩
end
end L2

namespace L2
open PySem PySem.W PyProof.Rows
variable{a:Addr}{σ:St}{H:Hp}
def sqO (k:SK) (xs:List V):HO:=match k with
 | .list=>.lst xs
 | .tuple=>.tup xs
def ItK (K:PySem.W.Frag) (k:SK) (a:Addr):It:=match k with
 | .list=>Itl K a
 | .tuple=>Itt K a
def iSq (K:PySem.W.Frag) (k:SK) (tl:TE):TI:=fun σ H R=>tl σ H fun x H1=>∃ a,x=.ref a/\(∃ xs,Sq k K H1 a xs)/\R (ItK K k a) H1
section
variable {X:Cx}{tg l:Expr}
theorem eW (K:PySem.W.Frag) (hK:X.K=K) (k:SK) {tl:TE} (hl:Pr (PE X l tl)):Pr (PI X tg l (iSq K k tl)):=by
 cases k with
 | list=>exact xG K hK hl
 | tuple=>exact xH K hK hl
end
theorem fB {K:PySem.W.Frag}{k:SK} (xs:List V) {g:TG}{tt:TT}{te:TE}{Q:List V->Hp->Prop} (Pv:Nat->List V->St->Hp->Prop) (hn:xs.length < sizeLine) (h0:Pv 0 [] σ H) (hl:∀ i ys σ H,i<=xs.length->Pv i ys σ H->ys.length<=i/\Sq k K H a xs)
  (turn:∀ i ys σ H x,xs[i]?=some x->Pv i ys σ H->g x σ H fun σ2 H2=>tt σ2 H2 fun b H3=>if b=true then te σ2 H3 fun y H4=>Pv (i + 1) (ys++[y]) σ2 H4 else Pv (i + 1) ys σ2 H3)
  (after:∀ ys σ H,Pv xs.length ys σ H->Q ys H):Comp (ItK K k a) g tt te Q σ H:=by
 cases k with
 | list=>exact bO xs Pv hn h0 hl turn after
 | tuple=>exact dm xs Pv hn h0 hl turn after
theorem n9 {c:TT}{tb:TS}{D:Ends} (W:Nat->St->Hp->Prop) (h0:∃ m,W m σ H)
  (hs:∀ m σ H,W m σ H->c σ H fun b H1=>if b=true then tb { D with nx:=fun σ' H'=>∃ m',m' < m/\W m' σ' H',ct:=fun σ' H'=>∃ m',m' < m/\W m' σ' H',bk:=D.nx } σ H1 else D.nx σ H1)
  (mono:∀ σ H Q Q',(∀ b H1,Q b H1->Q' b H1)->c σ H Q->c σ H Q'):tWhile c tb D σ H:=by
 refine ⟨W,h0,fun m σ H p=>mono σ H _ _ (fun b H1 q=>?_) (hs m σ H p)⟩
 cases b with
 | true=>exact ⟨_,fun σ' H' z=>z,q⟩
 | false=>exact q
theorem xP{b:Addr}{kvs:List (List Key × V)}{k:List Key}{v:V} (e:H a=some (.dT kvs)) (eb:H b=some (.tup (k.map kV))) (h:valV kvs k=some v):DGet H a (.ref b) (some v):=h ▸ DGet.t e eb
theorem jg {X:Cx} (K:PySem.W.Frag) (hK:X.K=K):CallR X (.type "tuple") (fun xs H Q=>∃ p ys,xs=[V.ref p]/\((SqL K H p ys/\∀ (l:Addr),H l=none->Q (V.ref l) (upd H l (HO.tup ys)))\/SqT K H p ys/\Q (V.ref p) H)):=by subst hK; exact cQ
end L2

namespace L2
open PySem PySem.Spec PyProof.Rows PySem.SeqAt
section
variable {X:Cx}
theorem jh (n:Nat):(List.range n).all (fun _=>true)=true:=by simp
theorem ji:∀ {ps:List Addr}{us:List Value},Vals (ps.map V.ref) us->us=ps.map Value.ref
 | [],_,.nil=>rfl
 | p :: ps,_,.cons r t=>by
  cases r;rw [B4,ji t]
theorem bN {α β:Type}{R:α->β->Prop}:∀ {xs:List α}{ys:List β},Paired R xs ys->∀ (j:Nat) (h1:j < xs.length) (h2:j < ys.length),R xs[j] ys[j]
 | _,_,.nil,j,h1,_=>absurd h1 (Nat.not_lt_zero _)
 | _,_,.cons a t,0,_,_=>a
 | _,_,.cons a t,j + 1,h1,h2=>by
  have:=bN t j (by simpa using h1) (by simpa using h2)
  simpa using this
end
end L2

namespace L2
open PySem PySem.Spec PyProof.Rows PySem.SeqAt
variable{i:Int}{H:Hp}{a:Addr}{kvs:List (Key × V)}{v:V}
section
variable {X:Cx}
theorem eX {xs:List V}{us:List Value} (r:Vals xs us) (j:Nat) (h1:j < xs.length) (h2:j < us.length):RelV xs[j] us[j]:=bN r j h1 h2
theorem xQ {i o:Expr}{ty td:TE}{pos:Pos} (hu:X.A.units + 1 < cLine) (hi:Pr (PE X i ty)) (ho:Pr (PE X o td)) (h1:behindInMarks .In o=false:=by rfl):Pr (PE X (.Compare i [.In] [o] pos) (tDIn ty td)):=⟨tR (v9 hu hi.h ho.h) h1⟩
end
theorem fC{kvs:List (Key × V)}{x:Str} (e:H a=some (.dK kvs)) (h:valV kvs (.inr x)=some v):DGet H a (.str x) (some v):=h ▸ DGet.k (k:=.inr x) e
theorem eY{kvs:List (Key × V)} (e:H a=some (.dK kvs)) (h:valV kvs (.inl i)=some v):DGet H a (.int i) (some v):=h ▸ DGet.k (k:=.inl i) e
theorem xR{kvs:List (Key × V)} (e:H a=some (.dK kvs)) (h:valV kvs (.inl i)=none):DGet H a (.int i) none:=h ▸ DGet.k (k:=.inl i) e
theorem dputI (e:H a=some (.dK kvs)) (hl:kvs.length < sizeLine):DPut H a (.int i) v (upd H a (.dK (putK kvs (.inl i) v))):=DPut.k (k:=.inl i) e hl
end L2

namespace L2
open PySem
variable{sc:Scope}{N:List Str}{x:Str}{X:Cx}{pos:Pos}
structure AF (sc:Scope) (N:List Str):Prop where
 h:∀ x∈N,(sc.names.lookup x=some .local\/sc.names.lookup x=some .cell)/\(x == ("__debug__" : Str))=false/\(x == ("__classdict__" : Str))=false
structure AV (sc:Scope) (N:List Str):Prop where
 h:∀ x∈N,(sc.names.lookup x=some .local\/sc.names.lookup x=some .cell\/sc.names.lookup x=some .free)/\(x == ("__debug__" : Str))=false/\(x == ("__classdict__" : Str))=false
structure AK (sc:Scope) (N:List Str):Prop where
 h:∀ x∈N,sc.names.lookup x=some .local
structure AG (sc:Scope) (N:List Str):Prop where
 h:∀ x∈N,sc.names.lookup x=some .globalImplicit
theorem AF.l{N:List Str} (A:AF sc N) (i:Nat) (e:N[i]?=some x):sc.names.lookup x=some .local\/sc.names.lookup x=some .cell:=(A.h x (BO e)).1
theorem AK.k{N:List Str} (A:AK sc N) (i:Nat) (e:N[i]?=some x):sc.names.lookup x=some .local:=A.h x (BO e)
theorem AG.g{N:List Str} (A:AG sc N) (i:Nat) (e:N[i]?=some x):sc.names.lookup x=some .globalImplicit:=A.h x (BO e)
theorem qv (A:AF X.env.scope X.N) (i:Nat) (e:X.N[i]?=some x):Pr (PE X (.Name x pos) (tVar i)) :=
 have a:=A.h x (BO e)
 ng e (a.1.elim .inl fun h=>.inr (.inl h)) a.2.1 a.2.2
theorem qw (A:AV X.env.scope X.N) (i:Nat) (e:X.N[i]?=some x):Pr (PE X (.Name x pos) (tVar i)) :=
 have a:=A.h x (BO e)
 ng e a.1 a.2.1 a.2.2
end L2

namespace L2
variable{order loose ready l fed:List Nat}{x o:Nat}{ls:Nat->List Nat}
theorem eB {α:Type}:∀ {l m:List α},l.Nodup->(∀ x∈l,x∈m)->l.length<=m.length
 | [],_,_,_=>Ck _
 | x :: l,m,nd,h=>by
  obtain ⟨n1,n2⟩:=CU.mp nd;obtain ⟨a,b,rfl⟩:=List.append_of_mem (h x (by simp))
  have:=eB (l:=l) (m:=a++b) n2 fun y hy=>by
   have ne:y≠x:=fun z=>n1 (by rw [<- z]; exact hy)
   rcases BP.mp (h y (by simp [hy])) with z | z
   ·exact Du _ z
   ·rcases BV.mp z with z | z
    ·exact absurd z ne
    ·exact Cw _ z
  simp at this ⊢;omega
def wt (ls:Nat->List Nat) (order:List Nat) (o:Nat):Nat:=((ls o).filter fun s=>decide (s ∉ order)).length
theorem og (hx:x ∉ order):∀ l:List Nat,(l.filter fun s=>decide (s ∉ order++[x])).length + l.count x=(l.filter fun s=>decide (s ∉ order)).length
 | []=>rfl
 | s :: l=>by
  have ih:=og hx l;rw [List.filter_cons,List.filter_cons,List.count_cons]
  by_cases e:s=x
  ·subst e
   simp [hx] at ih ⊢;omega
  ·by_cases h:s∈order
   ·simp [h,e] at ih ⊢
    exact ih
   ·simp [h,e] at ih ⊢
    omega
theorem fD {ls:Nat->List Nat} (hx:x ∉ order) (o:Nat):wt ls (order++[x]) o + (ls o).count x=wt ls order o:=og hx (ls o)
theorem oh{x:Nat} (hx:x ∉ order) (h:x∈ls o):0 < wt ls order o:=by
 have:=fD (ls:=ls) hx o;have c:0 < (ls o).count x:=List.count_pos_iff.mpr h;omega
structure Kahn (loose:List Nat) (ls:Nat->List Nat) (order ready:List Nat):Prop where
 no:order.Nodup
 nr:ready.Nodup
 ol:∀ o∈order,o∈loose
 rl:∀ o∈ready,o∈loose/\o ∉ order
 oz:∀ o∈order,wt ls order o=0
 rz:∀ o∈loose,o ∉ order->(o∈ready↔wt ls order o=0)
 tp:∀ i x,order[i]?=some x->∀ s∈ls x,s∈order.take i
structure Mid (loose:List Nat) (ls:Nat->List Nat) (order:List Nat) (x:Nat) (done ready:List Nat):Prop where
 nr:ready.Nodup
 rl:∀ o∈ready,o∈loose/\o ∉ order/\o≠x
 rz:∀ o∈loose,o ∉ order->o≠x->(o∈ready↔wt ls order o=done.count o)
theorem Kahn.pop (k:Kahn loose ls order (ready++[x])):x∈loose/\x ∉ order/\wt ls order x=0/\Mid loose ls order x [] ready:=by
 obtain ⟨a,b⟩:=k.rl x (by simp)
 obtain ⟨n1,n2,n3⟩:=C3.mp k.nr;refine ⟨a,b,(k.rz x a b).mp (by simp),n1,fun o ho=>⟨(k.rl o (by simp [ho])).1,(k.rl o (by simp [ho])).2,fun e=>n3 o ho x (by simp) e⟩,fun o h1 h2 h3=>?_⟩
 rw [List.count_nil,<- k.rz o h1 h2,BP,B6];exact ⟨.inl,fun z=>z.resolve_right h3⟩
structure FedBy (loose:List Nat) (ls:Nat->List Nat) (x:Nat) (fed:List Nat):Prop where
 m:∀ o∈fed,o∈loose/\x∈ls o
 c:∀ o∈loose,fed.count o=(ls o).count x
theorem xS {l:List Nat} (j o:Nat):(l.take j).count o<=l.count o:=by
 have:=Cs (List.count o) (List.take_append_drop j l);rw [List.count_append] at this;omega
theorem Mid.step{j:Nat} (k:∀ y∈order,wt ls order y=0) (hx:x ∉ order) (hz:wt ls order x=0) (f:FedBy loose ls x fed) (m:Mid loose ls order x (fed.take j) ready) (ho:fed[j]?=some o) :
  o∈loose/\(fed.take (j + 1)).count o=(fed.take j).count o + 1/\(fed.take (j + 1)).count o<=wt ls order o/\(∀ o',o'≠o->(fed.take (j + 1)).count o'=(fed.take j).count o') /\
  (wt ls order o=(fed.take (j + 1)).count o->Mid loose ls order x (fed.take (j + 1)) (ready++[o]))/\(wt ls order o≠(fed.take (j + 1)).count o->Mid loose ls order x (fed.take (j + 1)) ready):=by
 have et:fed.take (j + 1)=fed.take j++[o]:=by rw [B0,ho]; rfl
 obtain ⟨h1,h2⟩:=f.m o (BO ho);have p:=oh hx h2;have n1:o ∉ order:=fun z=>by have:=k o z; omega
 have n2:o≠x:=fun z=>by rw [z] at p; omega
 have c1:(fed.take (j + 1)).count o=(fed.take j).count o + 1:=by rw [et,List.count_append]; simp
 have c3:∀ o',o'≠o->(fed.take (j + 1)).count o'=(fed.take j).count o':=fun o' ne=>by
  rw [et,List.count_append,List.count_singleton];have:(o == o')=false:=by simpa using fun z=>ne z.symm
  rw [this]; rfl
 have c2:(fed.take (j + 1)).count o<=wt ls order o:=by
  have a:=xS (l:=fed) (j + 1) o;have b:=f.c o h1;have c:=fD (ls:=ls) hx o;omega
 have nr:o ∉ ready:=fun z=>by have:=(m.rz o h1 n1 n2).mp z; omega
 refine ⟨h1,c1,c2,c3,fun e=>⟨?_,?_,?_⟩,fun e=>⟨m.nr,m.rl,fun o' a b c=>?_⟩⟩
 ·rw [C3]
  exact ⟨m.nr,by simp,fun a ha b hb z=>nr (by rw [<- B6.mp hb,<- z]; exact ha)⟩
 ·intro y hy
  rcases BP.mp hy with z | z
  ·exact m.rl y z
  ·rw [B6.mp z]; exact ⟨h1,n1,n2⟩
 ·intro o' a b c
  rw [BP,B6]
  by_cases eo:o'=o
  ·subst eo
   exact ⟨fun _=>e,fun _=>.inr rfl⟩
  ·rw [c3 o' eo,<- m.rz o' a b c]
   exact ⟨fun z=>z.resolve_right eo,.inl⟩
 ·by_cases eo:o'=o
  ·subst eo
   exact ⟨fun z=>absurd z nr,fun z=>absurd z e⟩
  ·rw [c3 o' eo]
   exact m.rz o' a b c
theorem Mid.done (tp:∀ i x,order[i]?=some x->∀ s∈ls x,s∈order.take i) (no:order.Nodup) (ol:∀ o∈order,o∈loose) (k:∀ y∈order,wt ls order y=0) (hl:x∈loose) (hx:x ∉ order) (hz:wt ls order x=0) (f:FedBy loose ls x fed) (m:Mid loose ls order x fed ready) :
  Kahn loose ls (order++[x]) ready:=by
 refine ⟨?_,m.nr,?_,?_,?_,?_,?_⟩
 ·rw [C3]
  exact ⟨no,by simp,fun a ha b hb z=>hx (by rw [<- B6.mp hb,<- z]; exact ha)⟩
 ·intro o ho
  rcases BP.mp ho with z | z
  ·exact ol o z
  ·rw [B6.mp z]; exact hl
 ·intro o ho
  obtain ⟨a,b,c⟩:=m.rl o ho;exact ⟨a,by simp [b,c]⟩
 ·intro o ho
  have:=fD (ls:=ls) hx o;rcases BP.mp ho with z | z
  ·have:=k o z; omega
  ·rw [B6.mp z] at this ⊢; omega
 ·intro o a b
  rw [BP,B6,not_or] at b;have h1:=fD (ls:=ls) hx o;have h2:=f.c o a;rw [m.rz o a b.1 b.2];omega
 ·intro i y hy s hs
  by_cases hi:i < order.length
  ·rw [CM hi] at hy
   have:=tp i y hy s hs;rw [List.take_append_of_le_length (by omega)]
   exact this
  ·have h2:=(BX.mp hy).1
   rw [BU,Cn] at h2;have e:i=order.length:=by omega
   subst e;rw [CV (BI _),Nat.sub_self] at hy;cases hy;rw [List.take_append_of_le_length (BI _),B2];refine Dm fun n=>?_
   have:=oh n hs;omega
def Acy (loose:List Nat) (ls:Nat->List Nat):Prop:=∃ r:Nat->Nat,∀ n∈loose,∀ s∈ls n,s∈loose/\r s < r n
theorem Kahn.all{ls:Nat->List Nat} (k:Kahn loose ls order []) (ac:Acy loose ls):∀ n,n∈loose->n∈order:=by
 obtain ⟨r,ac⟩:=ac;have:∀ m n,r n=m->n∈loose->n∈order:=by
  intro m
  induction m using Nat.strongRecOn with
  | ind m ih =>
   intro n hm hn;refine Dm fun h=>?_
   have nz:wt ls order n≠0:=fun z=>by have:=(k.rz n hn h).mpr z; simp at this
   refine nz ?_;unfold wt;rw [List.length_eq_zero_iff,List.filter_eq_nil_iff];intro s hs;obtain ⟨a,b⟩:=ac n hn s hs
   simpa using ih (r s) (by omega) s rfl a
 exact fun n hn=>this (r n) n rfl hn
theorem Kahn.len{ls:Nat->List Nat} (k:Kahn loose ls order []) (nl:loose.Nodup) (ac:Acy loose ls):order.length=loose.length :=
 Nat.le_antisymm (eB k.no k.ol) (eB nl (k.all ac))
theorem Kahn.acy{order:List Nat} (k:Kahn loose ls order []) (e:order.length=loose.length) (hs:∀ n s,s∈ls n->s∈loose):Acy loose ls:=by
 have all:∀ n∈loose,n∈order:=fun n hn=>Dm fun h=>by
  have:=eB (l:=order++[n]) (m:=loose) (by
   rw [C3];exact ⟨k.no,by simp,fun a ha b hb z=>h (by rw [<- B6.mp hb,<- z]; exact ha)⟩) fun x hx=>by
    rcases BP.mp hx with z | z
    ·exact k.ol x z
    ·rw [B6.mp z]; exact hn
  rw [BU,Cn] at this;omega
 refine ⟨fun n=>order.idxOf n,fun n hn s h=>⟨hs n s h,?_⟩⟩
 have hi:order.idxOf n < order.length:=De (all n hn);have:=k.tp (order.idxOf n) n (by rw [BJ hi,List.getElem_idxOf]) s h
 obtain ⟨j,hj,ej⟩:=List.getElem_of_mem this;rw [B8] at hj;rw [List.getElem_take] at ej;have h2:order.idxOf s<=j:=by
  refine Dm fun z=>?_
  have:=List.not_of_lt_findIdx (p:=(· == s)) (xs:=order) (i:=j) (by simpa [List.idxOf] using z)
  simp [ej] at this
 show order.idxOf s < order.idxOf n;omega
theorem Kahn.le{ls:Nat->List Nat}{ready:List Nat} (k:Kahn loose ls order ready):order.length<=loose.length:=eB k.no k.ol
theorem Mid.le{ls:Nat->List Nat}{order done:List Nat}{x:Nat} (m:Mid loose ls order x done ready):ready.length<=loose.length:=eB m.nr fun o ho=>(m.rl o ho).1
def prs (ls:Nat->List Nat) (l:List Nat):List (Nat × Nat):=l.flatMap fun n=>(ls n).map fun s=>(s,n)
def fedOf (pr:List (Nat × Nat)) (s:Nat):List Nat:=(pr.filter fun p=>p.1 == s).map (·.2)
theorem xT (pr:List (Nat × Nat)) (s n s':Nat):fedOf (pr++[(s,n)]) s'=if s=s' then fedOf pr s'++[n] else fedOf pr s':=by
 unfold fedOf;rw [Dy,BL]
 by_cases e:s=s'
 ·simp [e]
 ·simp [e]
theorem oi (a b:List (Nat × Nat)) (s:Nat):fedOf (a++b) s=fedOf a s++fedOf b s:=by unfold fedOf; rw [Dy,BL]
theorem oj (n s o:Nat):∀ l:List Nat,(fedOf (l.map fun s=>(s,n)) s).count o=if o=n then l.count s else 0
 | []=>by simp [fedOf]
 | a :: l=>by
  have ih:=oj n s o l;rw [B4,show ((a,n) :: l.map fun s=>(s,n))=[(a,n)]++l.map fun s=>(s,n) from rfl,oi,List.count_append,ih]
  by_cases e1:a=s <;> by_cases e2:o=n <;> simp [fedOf,e1,e2,List.count_cons,B1] <;> omega
theorem om (ls:Nat->List Nat) (s o:Nat):∀ l:List Nat,l.Nodup->(fedOf (prs ls l) s).count o=if o∈l then (ls o).count s else 0
 | [],_=>by simp [fedOf,prs]
 | n :: l,nd=>by
  obtain ⟨n1,n2⟩:=CU.mp nd;have ih:=om ls s o l n2;unfold prs at ih ⊢;rw [List.flatMap_cons,oi,List.count_append,ih,oj]
  by_cases e:o=n
  ·subst e; simp [n1]
  ·simp [e]
theorem xU (ls:Nat->List Nat) (nd:l.Nodup) (x:Nat):FedBy l ls x (fedOf (prs ls l) x):=by
 refine ⟨fun o ho=>?_,fun o ho=>by rw [om ls x o l nd,if_pos ho]⟩
 unfold fedOf at ho;obtain ⟨p,hp,rfl⟩:=BQ.mp ho;obtain ⟨h1,h2⟩:=Cb.mp hp;obtain ⟨n,hn,h3⟩:=List.mem_flatMap.mp h1;obtain ⟨s,hs,rfl⟩:=BQ.mp h3;have:s=x:=by simpa using h2
 subst this;exact ⟨hn,hs⟩
end L2

namespace B17
open PySem L2
local macro_rules | `(∅) => `(by decide +kernel)
abbrev Vs (sc:Scope) (x:Str):Prop:=sc.names.lookup x=some NameKind.local\/sc.names.lookup x=some NameKind.cell\/sc.names.lookup x=some NameKind.free
abbrev Lc (sc:Scope) (x:Str):Prop:=sc.names.lookup x=some NameKind.local\/sc.names.lookup x=some NameKind.cell
abbrev Gi (sc:Scope) (x:Str):Prop:=sc.names.lookup x=some NameKind.globalImplicit
abbrev Nd (x:Str):Prop:=(x == ("__debug__" : Str))=false
abbrev Nc (x:Str):Prop:=(x == ("__classdict__" : Str))=false
theorem sz1:1<=sizeLine:=by rw [BR]; decide
theorem sz2:2<=sizeLine:=by rw [BR]; decide
theorem sz3:3<=sizeLine:=by rw [BR]; decide
theorem sz4:4<=sizeLine:=by rw [BR]; decide
theorem nlo (n:Nat):-2 ^ 62<=(n:Int):=Int.le_trans (by decide) (Dw n)
theorem ltl {α β:Type}{ks:List α}{ps:List β}{i:Nat} (e:ks.length=ps.length) (h:i < ks.length):i < ps.length:=e ▸ h
theorem szm {α:Type}{ks:List α}{ps:List Addr}{n:Nat} (e:ks.length=ps.length) (h:ks.length<=n) (hn:n < 16777216):(ps.map V.ref).length < sizeLine:=by
 rw [BR,BF,<- e];exact Dj h hn
end B17
local macro_rules | `(∅) => `(by decide +kernel)

namespace L2
open PySem PySem.Spec PyProof.Rows
variable{X:Cx}
def aIxQ (K:PySem.W.Frag):R2:=fun x y H Q=>∃ p xs i,x=.ref p/\y=.int i/\(SqL K H p xs\/SqT K H p xs)/\Atx xs i fun v=>Q v H
theorem gz (K:PySem.W.Frag) (hK:X.K=K):IxR X (aIxQ K):=by
 subst hK;intro value slice pins s σ H x y u w Q I rx ry h;obtain ⟨p,xs,i,e1,e2,hs,a⟩:=h;rcases hs with hs | hs
 ·exact bR value slice pins s σ H x y u w Q I rx ry ⟨p,xs,i,e1,e2,hs,a⟩
 ·exact az value slice pins s σ H x y u w Q I rx ry ⟨p,xs,i,e1,e2,hs,a⟩
theorem xV (K:PySem.W.Frag) (hK:X.K=K):CallR X (.type "list") (fun xs H Q=>∃ p ys,xs=[V.ref p]/\(SqL K H p ys\/SqT K H p ys)/\∀ (l:Addr),H l=none->Q (V.ref l) (upd H l (HO.lst ys))):=by subst hK; exact dC
def rInsert:V->List V->Hp->VK->Prop:=fun x vs H Q=>∃ (l:Addr) (xs:List V) (i:Int) (y:V),x=.ref l/\vs=[.int i,y]/\H l=some (.lst xs)/\0<=i/\i<=xs.length/\xs.length < 1000/\Q .non (upd H l (.lst (xs.take i.toNat++y :: xs.drop i.toNat)))
theorem oq {xs:List V}{us:List Value} (r:Vals xs us):∀ n:Nat,Vals (xs.take n) (us.take n)/\Vals (xs.drop n) (us.drop n):=by
 induction r with
 | nil=>intro n; cases n <;> exact ⟨.nil,.nil⟩
 | cons a t ih =>
  intro n;cases n with
  | zero=>exact ⟨.nil,.cons a t⟩
  | succ n=>exact ⟨.cons a (ih n).1,(ih n).2⟩
theorem xW:MtM X "list.insert" rInsert:=by
 intro pins s σ H x vs v us Q I rx rv h;obtain ⟨l,xs,x,y,rfl,rfl,hH,hi0,hi,hz,q⟩:=h;cases rx;obtain ⟨u,w,rfl,ru,rw'⟩:=vals2 rv;obtain ⟨t,rfl⟩:=ru;obtain ⟨z,its,n,r,hl,e⟩:=I.lstM hH;have ne:¬ (x < 0):=by omega
 have e2:x<=1000:=by omega
 obtain ⟨i,e1⟩:∃ i:Nat,x.toNat=i:=⟨_,rfl⟩;rw [e1] at q;have hf:¬(!Builtin.List.listFitsIndex x)=true:=by
  have:Builtin.List.listFitsIndex x=true:=by
   unfold Builtin.List.listFitsIndex;rw [Bool.and_eq_true,Df,Df];exact ⟨by omega,by omega⟩
  rw [this];exact B9
 have hz2:its.toArray.size<=sizeLine:=by rw [BZ,<- hl]; exact z
 have mn:min x.toNat its.toArray.size=i:=by rw [BZ,e1]; omega
 refine call_meets PySem.F.slot_list_insert ⟨_,e,rfl⟩ PySem.F.entry_list_insert (PySem.F.args_list_insert_3 _ _ _) (PySem.AutoSeq1.list_insert_list_int_val_1 l its.toArray n x t w hf hz2) ⟨e,?_⟩;refine ⟨.non,_,I.lset (its':=its.take i++w :: its.drop i) hH e ?_ ((oq r i).1.append (.cons rw' (oq r i).2)) ?_,rfl,q⟩
 ·show (its.toArray.extract 0 (if x < 0 then (x + (its.toArray.size:Int)).toNat else min x.toNat its.toArray.size)).push w++its.toArray.extract (if x < 0 then (x + (its.toArray.size:Int)).toNat else min x.toNat its.toArray.size)=_
  rw [if_neg ne,mn,PySem.W.kl_ins_eq]
 ·rw [BU,Cm,B8,List.length_drop,BR]
  omega
end L2

namespace L2
open PySem PySem.Spec PyProof.Rows
variable{kvs:List (Key × V)}{ob:Obj}{P:Program}{w:World}{X:Cx}{σ:St}{H:Hp}{d:Addr}{es:Array DictEntry}{ep:Nat}{tg:Expr}
section
variable {X:Cx}{pins:List (Addr × Obj)}{σ:St}{H:Hp}{s:Shared}{d:Addr}
theorem Inv.swap (I:Inv X pins σ H s) {o o':HO} (e:H d=some o) (nt:∀ xs,o≠.tup xs) (no:∀ x,o≠.own x) (nb:∀ ps,o≠.tbl ps) (nf:(∀ b u,o≠.frz b u)\/∀ b u,X.H₀ d≠some (.frz b u)) (new:ObjOk X.prog X.w (upd H d o') s.heap d o'):Inv X pins σ (upd H d o') s:=by
 have ne:∀ b,H b=none->b≠d:=fun b h z=>by rw [z,e] at h; cases h
 refine ⟨I.ok,I.os,I.bare,⟨I.base.keep,I.base.slot,fun b u q n hx=>?_,I.base.there,fun b xs q=>?_,fun b u v q=>?_,fun b ps q=>?_⟩,I.loc,I.cell,?_,fun x c q=>?_,fun p hp=>?_,fun b u q=>?_,I.len⟩
 ·have z:=I.base.free b u q n hx
  rw [aD (ne b z)]; exact z
 ·have z:=I.base.tups b xs q
  have nd:b≠d:=fun w=>by rw [w,e] at z; exact nt xs (Ca z)
  rw [aD nd]; exact z
 ·have z:=I.base.frzs b u v q
  have nd:b≠d:=fun w=>by
   rcases nf with nf | nf
   ·rw [w,e] at z; exact nf u v (Ca z)
   ·rw [w] at q; exact nf u v q
  rw [aD nd]; exact z
 ·obtain ⟨more,z⟩:=I.base.tbls b ps q
  have nd:b≠d:=fun w=>by rw [w,e] at z; exact nb _ (Ca z)
  exact ⟨more,by rw [aD nd]; exact z⟩
 ·rw [aD (ne _ I.free)]; exact I.free
 ·rw [aD (ne _ (I.freeC x c q))]; exact I.freeC x c q
 ·obtain ⟨q1,q2,q3⟩:=I.pin p hp
  exact ⟨q1,by rw [aD (ne _ q2)]; exact q2,q3⟩
 ·by_cases hb:b=d
  ·subst hb; rw [af] at q; cases q; exact new
  ·rw [aD hb] at q
   exact (I.hok b u q).stay (fun _ _ _ z=>z) (fun c z=>by rw [aD (fun w=>by rw [w,e] at z; exact no _ (Ca z))]; exact z) fun c xs z=>by rw [aD (fun w=>by rw [w,e] at z; exact nt xs (Ca z))]; exact z
theorem Inv.freeze (I:Inv X pins σ H s) (e:H d=some (.dK kvs)) (ho:s.heap.get? d=some ob):Inv X pins σ (upd H d (.frz ob (.dK kvs))) s :=
 I.swap e (fun _ z=>by cases z) (fun _ z=>by cases z) (fun _ z=>by cases z) (.inl fun _ _ z=>by cases z) ⟨ho,(I.hok d _ e:ObjOk X.prog X.w H s.heap d (.dK kvs))⟩
theorem Inv.thaw (I:Inv X pins σ H s){ob:Obj} (e:H d=some (.frz ob (.dK kvs))) (nf:∀ b u,X.H₀ d≠some (.frz b u)):Inv X pins σ (upd H d (.dK kvs)) s :=
 I.swap e (fun _ z=>by cases z) (fun _ z=>by cases z) (fun _ z=>by cases z) (.inr nf) ((I.hok d _ e:ObjOk X.prog X.w H s.heap d (.frz ob (.dK kvs))).2:ObjOk X.prog X.w H s.heap d (.dK kvs))
end
def Itd (d:Addr) (ob:Obj) (kvs:List (Key × V)):It:=⟨fun i H=>H d=some (.frz ob (.dK kvs))/\i < kvs.length,fun i H x H'=>H'=H/\∃ kv:Key × V,kvs[i]?=some kv/\x=kV kv.1,fun i H=>H d=some (.frz ob (.dK kvs))/\kvs.length<=i⟩
theorem ou {k:Key}{v:Value} (h:keyIs k v=true):RelV (kV k) v:=by
 rcases dh h with ⟨i,t,rfl,rfl⟩ | ⟨x,t,rfl,rfl⟩
 ·exact ⟨t,rfl⟩
 ·exact ⟨t,rfl⟩
theorem ox:∀ {kvs:List (Key × V)}{vs:List (Key × Value)}{es:List DictEntry},KV kvs vs->Pairs (mixKind P w) es vs->es.length=kvs.length/\∀ (i:Nat) (kv:Key × V),kvs[i]?=some kv->∃ e:DictEntry,es[i]?=some e/\RelV (kV kv.1) e.key
 | _,_,_,.nil,.nil=>⟨rfl,fun i kv h=>by simp at h⟩
 | _,_,_,.cons a t,.cons b _ r=>by
  obtain ⟨l,g⟩:=ox t r;refine ⟨by simp [l],fun i kv h=>?_⟩
  cases i with
  | zero =>
   cases h;exact ⟨_,rfl,ou (by rw [a.1]; exact b)⟩
  | succ i=>exact g i kv (by simpa using h)
theorem Inv.frzd {X:Cx}{pins:List (Addr × Obj)}{σ:St}{H:Hp}{s:Shared}{ob:Obj} (I:Inv X pins σ H s) (e:H d=some (.frz ob (.dK kvs))) (hd:ob.data=.dict es ep):DAt s.heap d es ep/\es.size=kvs.length/\∀ (i:Nat) (kv:Key × V),kvs[i]?=some kv->∃ en:DictEntry,es[i]?=some en/\RelV (kV kv.1) en.key:=by
 obtain ⟨g1,_,_,vs,kv,o,es',ep',g2,g3,g4,_,g5,_⟩:=(I.hok d _ e:ObjOk X.prog X.w H s.heap d (.frz ob (.dK kvs)));rw [g1] at g2;cases g2;rw [hd] at g4;cases g4;obtain ⟨l,g⟩:=ox kv g5;exact ⟨⟨_,g1,g3,hd⟩,by rw [<- l]; simp,fun i kv h=>by obtain ⟨en,e1,e2⟩:=g i kv h; exact ⟨en,by simpa using e1,e2⟩⟩
theorem xX{K:PySem.W.Frag} (d it:Addr) (hd:ob.data=.dict es ep):Turn P w K tg (Itd d ob kvs) [it] it (fun i h=>h.get? it=some (kitO d i es.size ep)/\i<=es.size) where
 mem:=by simp
 obj:=fun i h st b hb=>by
  have e:b=it:=by simpa using hb
  subst e;exact ⟨_,st.1,fun v z=>by cases z⟩
 keep:=fun i h h' st k=>⟨k it (by simp) _ st.1,st.2⟩
 item:=by
  intro X hP hw hK hc i pins s σ H E I hf st hg;subst hP hw hK;obtain ⟨hq,hi⟩:=hg;obtain ⟨m,l,g⟩:=I.frzd hq hd;obtain ⟨f0,f1,f2,f3,f4,f5⟩:=hf it (by simp)
  obtain ⟨en,e1,r⟩:=g i kvs[i] (BJ hi);have hi2:i < es.size:=by omega
  have e2:en=es[i]:=by rw [Array.getElem?_eq_getElem hi2] at e1; exact (Ca e1).symm
  subst e2;refine nX st.1 m hi2 fun h' st' sb=>?_
  have I1:Inv X pins σ H { s with heap:=h' }:=I.turned (t':=s.toks) (fun b o hb e=>(sb.2 b hb).trans e) f0 f1 f3 f4 f5
  exact ⟨_,rfl,fi (s:={ s with heap:=h' }) st' rfl rfl (by decide) ⟨kV kvs[i].1,H,I1,r,⟨rfl,_,BJ hi,rfl⟩,⟨st',by omega⟩,fun b hb=>(hf b hb).1⟩⟩
 done:=by
  intro X hP hw hK hc i pins s σ H E I hf st hg;subst hP hw hK;obtain ⟨hq,hi⟩:=hg;obtain ⟨m,l,g⟩:=I.frzd hq hd;obtain ⟨f0,f1,f2,f3,f4,f5⟩:=hf it (by simp)
  have e:i=es.size:=by have:=st.2; omega
  subst e;exact nY (I.ok.hd hc) st.1 m fun h' eb=>⟨rfl,I.turned (t':=s.toks) (fun b o hb e=>eb b o hb e) f0 f1 f3 f4 f5⟩
 self:=fun _ _ _ _ _ st h=>wpAny_pyIter_keyiter ⟨_,st.1,rfl,rfl⟩ h
def iDict (tl:TE):TI:=fun σ H R=>tl σ H fun x H1=>∃ d kvs,x=.ref d/\H1 d=some (.dK kvs)/\∀ ob,R (Itd d ob kvs) (upd H1 d (.frz ob (.dK kvs)))
theorem xY{l:Expr}{tl:TE} (hl:Pr (PE X l tl)):Pr (PI X tg l (iDict tl)):=by
 refine ⟨?_⟩;intro pins s σ H R I h;refine thn (hl.h pins s σ H _ I h) fun v s1 ⟨x,H1,I1,r1,q1⟩=>?_
 obtain ⟨d,kvs,e,hq,q⟩:=q1;subst e;cases r1;obtain ⟨_,nS,vs,kv,o,es,ep,g2,g3,g4,_⟩:=(I1.hok d _ hq:ObjOk X.prog X.w H1 s1.heap d (.dK kvs));have I2:=I1.freeze hq g2;refine nW nS ⟨o,g2,g3,g4⟩ ?_;refine ⟨s1.heap.objs.size,[s1.heap.objs.size],_,_,_,rfl,I2.kept (t':=s1.toks) fun b o e=>BK _ e,xX d _ g4,⟨B3 _ rfl,Ck _⟩,fun b hb=>?_,q o⟩
 have e:b=s1.heap.objs.size:=by simpa using hb
 subst e;exact I2.fpOk (BI _) (I2.hok.fresh (BI _))
theorem xZ (kvs:List (Key × V)) {g:TG}{tt:TT}{te:TE}{Q:List V->Hp->Prop} (Pv:Nat->List V->St->Hp->Prop) (hn:kvs.length < sizeLine) (h0:Pv 0 [] σ H) (hl:∀ i ys σ H,i<=kvs.length->Pv i ys σ H->ys.length<=i/\H d=some (.frz ob (.dK kvs)))
  (turn:∀ i ys σ H kv,kvs[i]?=some kv->Pv i ys σ H->g (kV kv.1) σ H fun σ2 H2=>tt σ2 H2 fun b H3=>if b=true then te σ2 H3 fun y H4=>Pv (i + 1) (ys++[y]) σ2 H4 else Pv (i + 1) ys σ2 H3)
  (after:∀ ys σ H,Pv kvs.length ys σ H->Q ys H):Comp (Itd d ob kvs) g tt te Q σ H :=
 eT kvs.length Pv h0 (fun i ys σ H hi p=>Dj (B7 (hl i ys σ H hi p).1 hi) hn) (fun i ys σ H hi p=>⟨(hl i ys σ H (Ce hi) p).2,hi⟩)
  (fun ys σ H p=>⟨(hl _ ys σ H (BI _) p).2,BI _⟩) (fun i ys σ H hi p x H' y=>by obtain ⟨rfl,kv,e,rfl⟩:=y; exact turn i ys σ _ kv e p) after
def Thaw (H0:Hp) (q:Hp->Prop) (H:Hp):Prop:=∃ d ob kvs,H d=some (.frz ob (.dK kvs))/\(∀ b u,H0 d≠some (.frz b u))/\q (upd H d (.dK kvs))
def eThaw (H0:Hp) (t:TE):TE:=fun σ H Q=>t σ H fun v H'=>Thaw H0 (Q v) H'
theorem x6{ex:Expr}{t:TE} (h:Pr (PE X ex t)):Pr (PE X ex (eThaw X.H₀ t)):=by
 refine ⟨?_⟩;intro pins s σ H Q I q;refine thn (h.h pins s σ H _ I q) fun v s1 q1=>?_
 obtain ⟨x,H1,I1,r,d,ob,kvs,e,nf,z⟩:=q1;exact ⟨x,_,I1.thaw e nf,r,z⟩
end L2

namespace L2
open PySem PySem.Spec PyProof.Rows
variable{X:Cx}
structure ClsFn (K:PySem.W.Frag) (C:Addr) (m:Str) (f:Addr):Prop where
 hg:PySem.W.specialIn K (.ref C) "__getattribute__" = some (some (.builtin "type.__getattribute__"))
 rd:PySem.W.readsIn K C (.type "type")=true
 fd:PySem.W.findCls K (.ref C) (.type "type") m=some (.val (.ref f))
 kp:PySem.W.keepIn K (.ref f)=true
structure ClsOk (P:Program) (w:World) (K:PySem.W.Frag) (mg:Str->Option Value) (base:Heap) (CX:CXT) (k:Nat) (x:Str) (m:Str) (ps:List Str) (sp:Sp):Prop where
 ex:∃ (C f:Addr) (fd:FuncData),FnOk P w K mg base CX k f fd ps sp/\Binds K fd ps []/\ClsFn K C m f/\mg x=some (.ref C)
section
variable {X:Cx}{CX:CXT}{k:Nat}{ps:List Str}{sp:Sp}{E:XK}{x m:Str}{p pos apos:Pos}{e:Expr}{es:List Expr}{t:TA}
theorem x8 {pl:Sem Bool} (D:ClsOk X.prog X.w X.K X.mg X.base CX k x m ps sp) (hr:Room k X.A) (hg:Gl X x) (hx:Passes CX X E) (ha:Pr (PA X (e :: es) t)) (hdb:(x == ("__debug__" : Str))=false:=by decide)
  (hst:starEach (e :: es) X.env=(false,eval e X.env) :: starEach es X.env:=by rfl) (hpl:(backTo pos (starEach es X.env)).any (·.1)=false:=by rfl)
  (ht:eval (.Call (.Attribute (.Name x p) m apos) (e :: es) [] pos) X.env=(do
   let ov <- eval (.Name x p) X.env
   standAt apos.atName
   let (f,first) <- holding [ov] (getMethod ov m pl)
   callWith pos f first (backTo pos (starEach (e :: es) X.env)) (backToKw pos (keywordEach [] X.env))):=by rfl) :
  Pr (PE X (.Call (.Attribute (.Name x p) m apos) (e :: es) [] pos) (tCall sp [] E t)):=by
 refine ⟨?_⟩;obtain ⟨C,f,fd,F,b,cf,hm⟩:=D.ex;intro pins s σ H Q I h;have hn:PE X (.Name x p) (fun σ H Q=>Q (.ref C) H):=lQ (v:=.ref C) hg hm rfl hdb
 refine PySem.W.methodCall_KW (pl:=pl) (thn (hn pins s σ H (fun v H'=>v=.ref C/\H'=H) I ⟨rfl,rfl⟩) fun u s1 ⟨v,H1,I1,rx,e1,e2⟩=>?_) ht
 subst e1;subst e2;obtain rfl:u=Value.ref C:=rx;refine PySem.W.method_cls I1.kIn cf.hg (PySem.W.cls_value I1.kIn cf.rd cf.fd rfl ?_);refine PySem.W.callWith_K (h₀:=X.base) I.ok.mod.kin cf.kp (thn (ha.h pos pins _ σ H1 _ (I1.tok _) h) fun us s2 ⟨vs,H2,I2,r,q2⟩=>⟨I2.kIn,?_⟩) hst hpl
 exact fZ F hr b .nil hx I2 r q2
end
def rDictC:List V->Hp->VK->Prop:=fun xs H Q=>∃ (a:Addr) (kvs:List (Key × V)),xs=[.ref a]/\H a=some (.dK kvs)/\∀ d,H d=none->Q (.ref d) (upd H d (.dK kvs))
theorem x9:CallR X (.type "dict") rDictC:=by
 intro pins s σ H xs us Q I r h;obtain ⟨a,kvs,rfl,ha,q⟩:=h;obtain ⟨u,rfl,ru⟩:=vals1 r;cases ru;obtain ⟨hz,nS,vs,kv,hd⟩:=(I.hok a _ ha:ObjOk X.prog X.w H s.heap a (.dK kvs));have lv:vs.length=kvs.length:=(BH kv).symm;refine kt_call_dict nS hd (by omega) fun h' hd' sb=>?_
 have kp:∀ b o,s.heap.get? b=some o->h'.get? b=some o:=fun b o e=>(sb.2 b (BS (BM e))).trans (BK _ e)
 have nS2:(s.heap.objs.size == sysModules)=false:=CB.mpr (B1 (BS I.big));exact ⟨.ref s.heap.objs.size,_,I.laid (t':=s.toks) kp (BI _) (show ObjOk X.prog X.w _ h' _ (.dK kvs) from ⟨hz,nS2,vs,kv,hd'⟩),rfl,q _ (I.hok.fresh (BI _))⟩
def ViewO (v d:Addr):HO:=.ext fun h=>h.IsValuesView v d
def rValues:V->List V->Hp->VK->Prop:=fun x vs H Q=>∃ (a:Addr) (kvs:List (Key × V)),x=.ref a/\vs=[]/\H a=some (.dK kvs)/\∀ v,H v=none->Q (.ref v) (upd H v (ViewO v a))
theorem ya:MtR X "dict.values" rValues:=by
 intro pins s σ H x vs v us Q I rx rv h;obtain ⟨a,kvs,rfl,rfl,ha,q⟩:=h;cases rx;cases rv;obtain ⟨hz,nS,vs,kv,hd⟩:=(I.hok a _ ha:ObjOk X.prog X.w H s.heap a (.dK kvs));have e:=B3 s.heap (o:={ cls:=.type "dict_values",data:=.fields #[.ref a] }) rfl;refine call_meetsIn PySem.F.slot_dict_values hd.typeIs PySem.F.entry_dict_values (PySem.F.args_dict_values_1 _) (meets_dict_values (mixKind X.prog X.w) a nS) ⟨⟨vs,hd⟩,?_⟩;refine ⟨.ref s.heap.objs.size,_,I.laid (t':=s.toks) (fun b o q=>BK _ q) (BI _) (show ObjOk X.prog X.w _ _ _ (ViewO _ a) from ⟨⟨_,e,rfl,rfl⟩,⟨_,e⟩,fun h1 h2 ⟨o,e1,e2⟩ k=>⟨o,k o e1,e2⟩⟩),rfl,q _ (I.hok.fresh (BI _))⟩
theorem yb{o:Expr}{td:TE}{apos cpos:Pos} (ho:Pr (PE X o td)) (hbase:attributeBase o "values" X.env (eval o X.env)=eval o X.env:=by rfl) (hline:(apos.endLine == cpos.line)=true:=by rfl):Pr (PE X (.Call (.Attribute o "values" apos) [] [] cpos) (tBM0 X.K "dict" rValues td)) :=
 ⟨mL PySem.F.plainAttrs_dict PySem.F.slot_dict_values PySem.F.type_dict_values ya ho.h hbase hline⟩
def rListV:List V->Hp->VK->Prop:=fun xs H Q=>∃ (v a:Addr) (kvs:List (Key × V)),xs=[.ref v]/\H v=some (ViewO v a)/\H a=some (.dK kvs)/\∀ l,H l=none->Q (.ref l) (upd H l (.lst (kvs.map (·.2))))
theorem oy:∀ {kvs:List (Key × V)}{vs:List (Key × Value)},KV kvs vs->Vals (kvs.map (·.2)) (vs.map (·.2))
 | _,_,.nil=>.nil
 | _,_,.cons a t=>.cons a.2 (oy t)
theorem yd (hc:X.calm=true):CallR X (.type "list") rListV:=by
 intro pins s σ H xs us Q I r h;obtain ⟨v,a,kvs,rfl,hv,ha,q⟩:=h;obtain ⟨u,rfl,ru⟩:=vals1 r;cases ru;obtain ⟨hz,nS,vs,kv,hd⟩:=(I.hok a _ ha:ObjOk X.prog X.w H s.heap a (.dK kvs));have hvw:=(I.hok v _ hv:ObjOk X.prog X.w H s.heap v (ViewO v a)).1;have lv:vs.length=kvs.length:=(BH kv).symm;obtain ⟨ep,hat⟩:=hd.dictAt;refine PySem.W.kdl_call (PySem.W.kdl_values (knd:=mixKind X.prog X.w) (kvs:=vs) (ep:=ep)) (I.ok.hd hc) ⟨hvw,hat⟩ (by omega) fun h' tk acc c kp e it=>?_
 have e2:acc.toList=vs.map (·.2):=PySem.W.kdl_vals_eq acc.toList (by simpa using it.1) fun j w hw=>it.2 j w (by simpa using hw)
 have e3:acc=(vs.map (·.2)).toArray:=by rw [<- e2]
 rw [e3] at e;exact ⟨.ref s.heap.objs.size,_,I.laid (t':=tk) kp (BI _) (show ObjOk X.prog X.w _ h' _ (.lst (kvs.map (·.2))) from ⟨by simpa using hz,_,_,oy kv,e⟩),rfl,q _ (I.hok.fresh (BI _))⟩
structure LDx (K:PySem.W.Frag) (x y:V) (H:Hp) (Q:VK):Prop where
 ex:∃ p,x=.ref p/\((∃ xs i,y=.int i/\SqL K H p xs/\Atx xs i fun v=>Q v H)\/∃ v,DGet H p y (some v)/\Q v H)
def aIxLD (K:PySem.W.Frag):R2:=fun x y H Q=>LDx K x y H Q
theorem ye (hu:X.A.units + 1 < cLine):IxR X (fun x y H Q=>∃ p v,x=.ref p/\DGet H p y (some v)/\Q v H):=by
 intro value slice pins s σ H x y o i Q I rx ry h hs;obtain ⟨a,v,rfl,g,q2⟩:=h;cases rx;have hT:=mX I g;unfold subscriptTail;refine BE ?_;rw [getitemInPython_of_ne hT.not_modules];refine BE (wpAny_specialOf hT PySem.F.slot_dict_getitem.lookup ?_);have fin:wpAny (model X.prog X.w) X.A (subscripted slice false (.ref a) i) (fun r s₃=>wpAny (model X.prog X.w) X.A (letTemporaryGo value (.ref a) r >>= fun _=>pure r) (EP X pins σ Q) X.xe s₃) X.xe s:=by
  rw [hs];exact wpAny_operating (Cf (mV (Q:=EP X pins σ Q) (E:=X.xe) hu I g ry fun w' s3 I3 rw'=>⟨v,H,I3,rw',q2⟩) (fun r s₃ h₃=>BE (wpAny_letTemporaryGo (BG h₃))) fun _ _ x=>x)
 first
  | exact BG (BE fin)
  | exact BG fin
theorem oA (hu:X.A.units + 1 < cLine) (K:PySem.W.Frag) (hK:X.K=K):IxR X (aIxLD K):=by
 subst hK;refine (IxR.or bR (ye hu)).imp fun x y H Q ⟨⟨p,e,h⟩⟩=>?_
 rcases h with ⟨xs,i,e2,sq,a⟩ | ⟨v,g,q⟩
 ·exact .inl ⟨p,xs,i,e,e2,sq,a⟩
 ·exact .inr ⟨p,v,e,g,q⟩
end L2

namespace L2
open PySem PySem.W PyProof.Rows PySem.Calls
theorem yg {h:Heap}{a:Addr}{xs:Array Value}{n:Nat} (hO:h.get? a=some (seqObj "list" xs n)) (vs:List Value) (out:Array Value):KeptBut a h (sortedHeap h a vs out)/\∃ c,(sortedHeap h a vs out).get? a=some (seqObj "list" out c):=by
 obtain ⟨e1,hO1⟩:∃ e1,(h.update a (Obj.mapSeq fun _=>(#[]:Array Value))).get? a=some (seqObj "list" #[] e1):=⟨_,get?_update_seq hO fun _=>#[]⟩
 have na:=BK (seqObj "list" #[] 0) (BK (seqObj "tuple" vs.toArray 0) hO1);refine ⟨fun b o nb e=>?_,_,get?_update_seq na fun _=>out⟩
 unfold sortedHeap;rw [Heap.get?_update_ne _ _ _ _ nb];exact BK _ (BK _ (by rw [Heap.get?_update_ne _ _ _ _ nb]; exact e))
theorem oB:∀ {vs:List Value}{ns:List Int},IntsAre vs ns->Vals (ns.map V.int) vs
 | _,_,.nil=>.nil
 | _,_,.cons _ u t=>.cons ⟨u,rfl⟩ (oB t)
theorem oC {P:Program}{w:World}:∀ {kvs:List (Key × V)}{vs:List (Key × Value)}{es:List DictEntry}{ns:List Int},KV kvs vs->Pairs (mixKind P w) es vs->kvs.map (·.1)=ns.map Sum.inl->IntsAre (es.map (·.key)) ns
 | _,_,_,ns,.nil,.nil,e=>by
  cases ns with
  | nil=>exact .nil
  | cons n r=>cases e
 | _,_,_,ns,.cons a t,.cons b _ r,e=>by
  cases ns with
  | nil=>cases e
  | cons n r' =>
   simp only [B4,List.cons.injEq] at e;have ih:=oC t r e.2;have kr:=ou b;rw [<- a.1,e.1] at kr;obtain ⟨u,eu⟩:=kr;rw [B4,eu];exact .cons _ _ ih
end L2

namespace L2
open PySem PySem.W PyProof.Rows PySem.Calls
def rSrtJ:List V->Hp->VK->Prop:=fun xs H Q=>∃ (a:Addr) (kvs:List (Key × V)) (ns:List Int),xs=[.ref a]/\H a=some (.dK kvs)/\kvs.map (·.1)=ns.map Sum.inl/\ns.length < 64/\∀ (p:Addr) (ns':List Int),ns'.Perm ns->ns'.Pairwise (·<=·)->H p=none->Q (.ref p) (upd H p (.lst (ns'.map V.int)))
theorem yh {X:Cx} (hc:X.calm=true):CallR X (.builtin "sorted") rSrtJ:=by
 intro pins s σ H xs us Q I r h;obtain ⟨a,kvs,ns,rfl,ha,ek,h64,q⟩:=h;obtain ⟨u,rfl,ru⟩:=vals1 r;cases ru;obtain ⟨hz,nS,vs,kv,o,es,ep,h1,h2,h3,h4,h5,_⟩:=(I.hok a _ ha:ObjOk X.prog X.w H s.heap a (.dK kvs));have m:DAt s.heap a es ep:=⟨o,h1,h2,h3⟩;have hI:=oC kv h5 ek;have hlen:es.size=ns.length:=by have:=hI.length; simpa using this
 have hh:X.A.handled=none:=I.ok.hd hc;refine call_function_entry kind_sorted plain_sorted entry_sorted (args_sorted1 _) ?_;unfold Builtin.«sorted»;refine BE (m:=checkCount "sorted" 1 1 _) (BG (BE (xN (by exact hh) nS m (by rw [BR]; omega) fun h' kp lt=>?_)))
 generalize hvs:es.toList.map (·.key)=us at hI;have lv:us.length=ns.length:=by rw [<- hvs]; simpa using hlen
 refine BE (wpAny_newList ?_ (by rw [BR]; omega))
 have hD:(h'.push (seqObj "list" us.toArray 0)).get? h'.objs.size=some (seqObj "list" us.toArray 0):=B3 _ rfl;have kD:∀ b o,s.heap.get? b=some o->b≠h'.objs.size/\(h'.push (seqObj "list" us.toArray 0)).get? b=some o:=fun b o e=>⟨BS (BM (kp b o e)),BK _ (kp b o e)⟩
 have szD:s.heap.objs.size<=h'.objs.size:=Ce lt;refine BE (Cz (CW slot_list_sort ⟨_,hD,rfl⟩ entry_list_sort (list_sort_tree hD hI (by omega) fun out ns' a1 a2 a3=>⟨_,rfl,BG ⟨_,rfl,?_⟩⟩) (args_list_sort _)))
 obtain ⟨kb,c,ec⟩:=yg hD us out;exact ⟨.ref h'.objs.size,_,I.laid (t':=s.toks) (fun b o e'=>kb b o (kD b o e').1 (kD b o e').2) szD (show ObjOk X.prog X.w _ _ _ (.lst (ns'.map V.int)) from ⟨by rw [BR,BF,a2.length_eq]; omega,out.toList,c,oB a1,by simpa using ec⟩),rfl,q _ ns' a2 a3 (I.hok.fresh szD)⟩
end L2

namespace L2
open PySem PySem.W PyProof.Rows PySem.Calls
section
variable {prog:Program}{w:World}{A:Around}{R:Result->Shared->Prop}{E:Value->Shared->Prop}
theorem oE {h h':Heap}{d I:Addr}{xs:List (List Key × Addr × Value)} (hd:h.DictOfH (tupleKind (mixKind prog w)) d xs) (up:∀ b o,b≠I->h.get? b=some o->h'.get? b=some o) (n:d≠I) (ha:∀ x∈xs,x.2.1≠I):h'.DictOfH (tupleKind (mixKind prog w)) d xs:=by
 obtain ⟨o,es,ep,h1,h2,h3,h4,h5,h6⟩:=hd;refine ⟨o,es,ep,up d o n h1,h2,h3,h4,fun x hx=>?_,h6⟩
 obtain ⟨o',its,m,g,r⟩:=h5 x hx;exact ⟨o',its,m,up _ o' (ha x hx) g,r⟩
theorem yj {d I l:Addr}{items:Array Value}{ps:List (List Key × Addr × Value)} (hh:A.handled=none) (hrm:(tupleKind (mixKind prog w)).room A.in1) (hdI:d≠I) (hld:l≠d) (hlI:l≠I) (hn:items.size=ps.length) (hsz:ps.length<=sizeLine) :
  ∀ (k i:Nat) (s:Shared) (acc:List (List Key × Addr × Value)),ps.length - i=k->i<=ps.length->acc.length<=i->s.heap.IsListIter I l i->s.heap.IsList l items->s.heap.DictOfH (tupleKind (mixKind prog w)) d acc ->
  (∀ x∈acc,x.2.1≠d/\x.2.1≠I)->((acc++ps.drop i).map (·.1)).Nodup ->
  (∀ (j:Nat) (x:List Key × Addr × Value),ps[j]?=some x->∃ (t:Addr),items[j]?=some (Value.ref t)/\s.heap.IsTuple t #[.ref x.2.1,x.2.2]/\(tupleKind (mixKind prog w)).is s.heap x.1 x.2.1/\t≠d/\t≠I/\x.2.1≠d/\x.2.1≠I) ->
  (∀ h' tk,h'.DictOfH (tupleKind (mixKind prog w)) d (acc++ps.drop i)->(∀ b o,b≠d->b≠I->s.heap.get? b=some o->h'.get? b=some o)->R (.ok (.ret .none)) { s with heap:=h',toks:=tk }) ->
  codeAny (model prog w) A (.builtin "dict.update.loop" ⟨[.ref d,.ref I,rawInt i,.none],[]⟩) R s:=by
 intro k
 induction k with
 | zero =>
  intro i s acc hk hi hacc hit hl hd ha nd hp hR;refine C0 gp ?_;rw [Dl dO _];show wpAny _ A.in1 (pyNext (.ref I) >>= _) _ _ s;refine BE (wpAny_pyNext_list_end (A:=A.in1) hh hit hl (by simp; omega) fun h₁ he₁=>?_)
  show wpAny _ _ (Builtin.Dict.addKeywords d [] >>= _) _ _ _;refine BE (BG (BG ?_));have:=hR h₁ s.toks (by rw [List.drop_of_length_le (by omega),C8]; exact oE hd he₁ hdI fun x hx=>(ha x hx).2) (fun b o hb hbI e=>he₁ b o hbI e)
  exact this
 | succ k ih =>
  intro i s acc hk hi hacc hit hl hd ha nd hp hR;have hlt:i < ps.length:=by omega
  obtain ⟨t,hx,ht,hkey,htd,htI,hkd,hkI⟩:=hp i ps[i] (BJ hlt);refine C0 gp ?_;rw [Dl dO _];show wpAny _ A.in1 (pyNext (.ref I) >>= _) _ _ s;refine BE (wpAny_pyNext_list_item hit hl hx fun h₁ hit₁ hs₁=>?_)
  have ht₁:h₁.IsTuple t #[.ref ps[i].2.1,ps[i].2.2]:=let ⟨o,ho,r⟩:=ht; ⟨o,(hs₁.2 t htI).trans ho,r⟩;have hd₁:h₁.DictOfH (tupleKind (mixKind prog w)) d acc:=oE hd (fun b o n e=>(hs₁.2 b n).trans e) hdI fun x hx=>(ha x hx).2
  have hkey₁:(tupleKind (mixKind prog w)).is h₁ ps[i].1 ps[i].2.1:=by
   obtain ⟨o',its,m,g,r⟩:=hkey;exact ⟨o',its,m,(hs₁.2 _ hkI).trans g,r⟩
  refine BE (Cz ?_);obtain ⟨ot,hot,hotc,nt,hotd⟩:=id ht₁;refine BE (wpAny_tryCatch ?_);unfold Builtin.Dict.pairItems;refine BE (wpAny_typeOf (T := "tuple") (⟨ot,hot,hotc⟩:Shared.TypeIs _ (.ref t) "tuple") ?_);rw [if_pos (by decide)]
  refine BE (CN hot hotd (BG ?_));show wpAny _ _ (holding [.ref ps[i].2.1,ps[i].2.2] (dictSet d (.ref ps[i].2.1) ps[i].2.2)) _ _ _;have dr:ps.drop i=ps[i] :: ps.drop (i + 1):=List.drop_eq_getElem_cons hlt;have nk:atKey acc ps[i].1=none:=by
   rw [dr,BL,B4] at nd;have n2:=(C3.mp nd).2.2;exact atKey_none_of_get fun j p e=>absurd rfl (n2 ps[i].1 (BQ.mpr ⟨_,BO e,rfl⟩) ps[i].1 (by simp))
  refine Cz (wpAny_dictSet_heap (hsz:=by omega) hrm hkey₁ hd₁ fun h₂ hd₂ hs₂=>BG ?_)
  rw [storedH_new nk] at hd₂;refine ⟨plainId_quiet dO _,?_⟩;have up:∀ b o,b≠d->b≠I->s.heap.get? b=some o->h₂.get? b=some o:=fun b o hb hbI e=>(hs₂.2 b hb).trans ((hs₁.2 b hbI).trans e)
  have e1:(i:Int) + 1=((i + 1:Nat):Int):=by omega
  have:=ih (i + 1) { s with heap:=h₂,toks:=s.toks + (tupleKind (mixKind prog w)).draws ps[i].1 } (acc++[(ps[i].1,ps[i].2.1,ps[i].2.2)]) (by omega) hlt (by simp; omega) (hit₁.extBut hs₂.extBut (B1 hdI))
   (let ⟨o,ho,r⟩:=hl; ⟨o,up l o hld hlI ho,r⟩) hd₂ (fun x hx=>by
    rcases BP.mp hx with z | z
    ·exact ha x z
    ·rw [B6.mp z]; exact ⟨hkd,hkI⟩) (by rw [C6]; rw [dr] at nd; exact nd) (fun j x hj=>by
    obtain ⟨t',a1,⟨o,ho,r⟩,⟨o',its,m,g,r'⟩,a4,a5,a6,a7⟩:=hp j x hj;exact ⟨t',a1,⟨o,up t' o a4 a5 ho,r⟩,⟨o',its,m,up _ o' a6 a7 g,r'⟩,a4,a5,a6,a7⟩) (fun h' tk hm hk'=>by
     have:=hR h' tk (by
      rw [dr];rw [C6] at hm;exact hm) fun b o hb hbI e=>hk' b o hb hbI (up b o hb hbI e)
     exact this)
  rw [<- e1] at this;exact this
end
section
variable {prog:Program}{w:World}{A:Around}{E:Value->Shared->Prop}{s:Shared}
theorem yk {l:Addr}{items:List Value}{n:Nat}{ps:List (List Key × Addr × Value)}{Q:Value->Shared->Prop} (hh:A.handled=none) (hrm:(tupleKind (mixKind prog w)).room A.in1.in1) (hl:s.heap.get? l=some { cls:=.type "list",data:=.seq items.toArray n })
  (hn:items.length=ps.length) (hsz:ps.length<=sizeLine) (nd:(ps.map (·.1)).Nodup) (hp:∀ (j:Nat) (x:List Key × Addr × Value),ps[j]?=some x->∃ (t:Addr),items[j]?=some (Value.ref t)/\s.heap.IsTuple t #[.ref x.2.1,x.2.2]/\(tupleKind (mixKind prog w)).is s.heap x.1 x.2.1)
  (h:∀ h' tk,h'.DictOfH (tupleKind (mixKind prog w)) s.heap.objs.size ps->(∀ b o,s.heap.get? b=some o->h'.get? b=some o)->Q (.ref s.heap.objs.size) { s with heap:=h',toks:=tk }) :
  wpAny (model prog w) A (call (.type "dict") [.ref l]) Q E s:=by
 refine callType_codes (Q₁:=fun obj s₁=>obj=.ref s.heap.objs.size/\s₁={ s with heap:=s.heap.push { cls:=.type "dict",data:=.dict #[] } }) F.kt_called_dict (F.kt_typeCall_dict_1 _) F.entry_dict_init (kt_code_dict_new _ ⟨rfl,rfl⟩) ?_
 rintro obj s₁ ⟨rfl,rfl⟩;have hnew:(s.heap.push { cls:=.type "dict",data:=.dict #[] }).DictOfH (tupleKind (mixKind prog w)) s.heap.objs.size []:=Heap.DictOfH.new s.heap;have hl':(s.heap.push { cls:=.type "dict",data:=.dict #[] }).get? l=some { cls:=.type "list",data:=.seq items.toArray n }:=BK _ hl;refine ⟨hnew.typeIs,F.args_dict_init_2 _ _,?_⟩;unfold Builtin.«dict.__init__»;refine BE ?_;unfold Builtin.Dict.selfAndRest;refine BE (wpAny_notOrdered_dict hnew.typeIs ?_);show wpAny _ _ (pure (s.heap.objs.size,[Value.ref l])) _ _ _;refine BG ?_;show wpAny _ _ (Builtin.Dict.updateFrom "dict.__init__" s.heap.objs.size (.ref l) [] .none) _ _ _;unfold Builtin.Dict.updateFrom;refine BE (wpAny_typeOf (T := "list") (⟨_,hl',rfl⟩:Shared.TypeIs _ (.ref l) "list") ?_);rw [if_pos (by decide)]
 refine BE (nG (name := "keys") nF ∅ ?_ hl' fun h₁ tk₁ k₁=>?_)
 ·first | exact hh | (show A.in1.handled=none; exact hh)
 rw [if_pos (show (none:Option Value).isNone=true from rfl)];refine BE (wpAny_rule ?_);have hl₁:h₁.IsList l items.toArray:=⟨_,k₁ _ _ hl',rfl,n,rfl⟩;refine BE (CL (s:={ s with heap:=h₁,toks:=tk₁ }) hl₁ ?_)
 have szd:s.heap.objs.size < h₁.objs.size:=by
  obtain ⟨o,_,_,ho,_⟩:=hnew;exact BM (k₁ _ _ ho)
 have lsz:l < s.heap.objs.size:=BM hl;have old:∀ b o,s.heap.get? b=some o->(h₁.push { cls:=.type "list_iterator",data:=.fields #[.ref l,.int 0 0] }).get? b=some o:=fun b o e=>BK _ (k₁ b o (BK _ e))
 refine BG ⟨plainId_quiet dO _,?_⟩;refine yj (d:=s.heap.objs.size) (I:=h₁.objs.size) (l:=l) (items:=items.toArray) (ps:=ps) (A:=A.in1) hh hrm (BS szd) (BS lsz) (BS (Nat.lt_trans lsz szd)) (by simpa using hn) hsz ps.length 0 _ [] rfl (Ck _) (BI _)
  ⟨_,B3 _ rfl,rfl,rfl⟩ ⟨_,BK _ (k₁ _ _ hl'),rfl,n,rfl⟩ (let ⟨o,es,ep,ho,h2,h3,h4,h5,h6⟩:=hnew; ⟨o,es,ep,BK _ (k₁ _ _ ho),h2,h3,h4,fun x hx=>absurd hx (by simp),h6⟩) (by simp) (by simpa using nd) (fun j x hj=>?_) (fun h' tk hm hk=>?_)
 ·obtain ⟨t,a1,⟨o,ho,r⟩,⟨o',its,m,g,r'⟩⟩:=hp j x hj
  have tlt:=BM ho;have klt:=BM g;exact ⟨t,by simpa using a1,⟨o,old t o ho,r⟩,⟨o',its,m,old _ o' g,r'⟩,BS tlt,BS (Nat.lt_trans tlt szd),BS klt,BS (Nat.lt_trans klt szd)⟩
 ·exact ⟨rfl,h h' tk hm fun b o e=>hk b o (BS (BM e)) (BS (Nat.lt_trans (BM e) szd)) (old b o e)⟩
end
section
variable {X:Cx}
def rDictT:List V->Hp->VK->Prop:=fun xs H Q=>∃ (p:Addr) (ts:List Addr) (kvs:List (List Key × V)),xs=[.ref p]/\H p=some (.lst (ts.map V.ref))/\Paired (fun kv t=>∃ q,H t=some (.tup [.ref q,kv.2])/\H q=some (.tup (kv.1.map kV))) kvs ts/\(kvs.map (·.1)).Nodup/\kvs.length<=5000/\∀ d,H d=none->Q (.ref d) (upd H d (.dT kvs))
theorem ym (hu:X.A.units + 64 < cLine) (hc:X.calm=true):CallR X (.type "dict") rDictT:=by
 intro pins s σ H xs us Q I r h;obtain ⟨p,ts,kvs,rfl,hp,hts,hnd,hz,q⟩:=h;obtain ⟨u,rfl,ru⟩:=vals1 r;cases ru;obtain ⟨z,its,n,rv,e⟩:=I.hok p _ hp;have ei:=ji rv;have mk:∀ {kvs:List (List Key × V)}{ts:List Addr},Paired (fun kv t=>∃ q,H t=some (.tup [.ref q,kv.2])/\H q=some (.tup (kv.1.map kV))) kvs ts->∃ ps:List (List Key × Addr × Value),KT H kvs ps/\ps.length=ts.length/\ps.map (·.1)=kvs.map (·.1) /\
   ∀ (i:Nat) (x:List Key × Addr × Value),ps[i]?=some x->∃ (t:Addr),(ts.map Value.ref)[i]?=some (.ref t)/\s.heap.IsTuple t #[.ref x.2.1,x.2.2]/\(tupleKind (mixKind X.prog X.w)).is s.heap x.1 x.2.1:=by
  intro kvs ts h
  induction h with
  | nil=>exact ⟨[],.nil,rfl,rfl,fun i kv e=>by simp at e⟩
  | @cons kv t kvs ts a _ ih =>
   obtain ⟨ps,h1,h2,hm,h3⟩:=ih;obtain ⟨q,a1,a2⟩:=a;obtain ⟨_,us,r2,o,ho,hoc,no,hod⟩:=I.hok _ _ a1;obtain ⟨ku,vu,rfl,rk,rvv⟩:=vals2 r2;cases (show ku=Value.ref q from rk);refine ⟨(kv.1,q,vu) :: ps,.cons ⟨rfl,a2,rvv⟩ h1,by simp [h2],by simp [hm],fun i kv' e=>?_⟩
   cases i with
   | zero =>
    simp at e;subst e;exact ⟨t,rfl,⟨o,ho,hoc,no,hod⟩,eQ I.hok a2⟩
   | succ i =>
    obtain ⟨t',f1,f2,f3⟩:=h3 i kv' (by simpa using e)
    exact ⟨t',by simpa using f1,f2,f3⟩
 obtain ⟨ps,kv,lp,hm,hps⟩:=mk hts;have lps:kvs.length=ps.length:=BH kv;subst ei;have hf:H s.heap.objs.size=none:=I.hok.fresh (BI _);refine yk (ps:=ps) (I.ok.hd hc) (tupleKind_room_in1 (A:=X.A.in1) (by show X.A.units + 1 + 1 < cLine; omega)) e (by simp [lp]) (by rw [BR]; omega) (by rw [hm]; exact hnd) (fun j kv' ej=>hps j kv' ej) fun h' tk hd hk=>?_
 obtain ⟨o,es,ep,h1,h2,h3,h4,_,h6⟩:=hd;refine ⟨.ref s.heap.objs.size,upd H s.heap.objs.size (.dT kvs),I.laid (t':=tk) hk (BI _) ?_,rfl,q _ hf⟩;exact ⟨by rw [BR]; omega,CB.mpr (B1 (BS I.big)),ps,kv.keeps (fun c ys ec=>by rw [aD (ar ec hf)]; exact ec),o,es,ep,h1,h2,h3,h4,h6⟩
end
end L2

namespace L2
open PySem
namespace ST
variable{mask i n j:Nat}{h:Int}{q:Nat × Nat}{pl:List Nat}
def it {α:Type} (f:α->α):Nat->α->α
 | 0,x=>x
 | n + 1,x=>f (it f n x)
theorem eC {α:Type} (f:α->α) (a:Nat) (x:α):∀ b,it f (a + b) x=it f b (it f a x)
 | 0=>rfl
 | b + 1=>by show f (it f (a + b) x)=f (it f b (it f a x)); rw [eC f a x b]
abbrev Pb:=SetTable.Probe
def adv (mask:Nat) (p:Pb):Pb :=
 if p.more > 0 then { p with j:=p.j + 1,more:=p.more - 1 } else
 { p with j:=(SetTable.leap mask p.i p.perturb).1,more:=SetTable.runEnd mask (SetTable.leap mask p.i p.perturb).1 - (SetTable.leap mask p.i p.perturb).1,i:=(SetTable.leap mask p.i p.perturb).1,perturb:=(SetTable.leap mask p.i p.perturb).2 }
def St (mask:Nat) (q:Nat × Nat):Pb:={ j:=q.1,more:=SetTable.runEnd mask q.1 - q.1,i:=q.1,perturb:=q.2,dummy:=none }
def q0 (mask:Nat) (h:Int):Nat × Nat:=(SetTable.bits h % (mask + 1),SetTable.bits h)
def stp (mask:Nat) (h:Int) (n:Nat):Pb:=it (adv mask) n (St mask (q0 mask h))
def J (mask:Nat) (h:Int) (n:Nat):Nat:=(stp mask h n).j
def lp (mask:Nat) (q:Nat × Nat):Nat × Nat:=SetTable.leap mask q.1 q.2
theorem jj (h:i<=mask):i<=SetTable.runEnd mask i/\SetTable.runEnd mask i<=mask/\SetTable.runEnd mask i<=i + 9:=by
 unfold SetTable.runEnd; split <;> omega
theorem jk (mask:Nat) (q:Nat × Nat):(lp mask q).1<=mask:=by
 show (_ % (mask + 1))<=mask;have:=Nat.mod_lt (q.1 * 5 + 1 + q.2 / 32) (show 0 < mask + 1 by omega)
 omega
theorem jm (mask:Nat) (h:Int):∀ n,(stp mask h n).j + (stp mask h n).more<=mask/\(stp mask h n).dummy=none
 | 0=>by
  have l:(q0 mask h).1<=mask:=by
   show SetTable.bits h % (mask + 1)<=mask;have:=Nat.mod_lt (SetTable.bits h) (show 0 < mask + 1 by omega)
   omega
  have:=jj l;exact ⟨by show (q0 mask h).1 + (SetTable.runEnd mask (q0 mask h).1 - (q0 mask h).1)<=mask; omega,rfl⟩
 | n + 1=>by
  obtain ⟨a,b⟩:=jm mask h n;have e:stp mask h (n + 1)=adv mask (stp mask h n):=rfl;rw [e];unfold adv
  split
  ·exact ⟨by dsimp only; omega,b⟩
  ·have l:=jk mask ((stp mask h n).i,(stp mask h n).perturb)
   have:=jj (show (SetTable.leap mask (stp mask h n).i (stp mask h n).perturb).1<=mask from l);exact ⟨by dsimp only; omega,b⟩
theorem J_le (mask:Nat) (h:Int) (n:Nat):J mask h n<=mask:=by
 have:=(jm mask h n).1;unfold J; omega
theorem run (e:stp mask h n=St mask q):∀ k,k<=SetTable.runEnd mask q.1 - q.1->stp mask h (n + k)={ j:=q.1 + k,more:=SetTable.runEnd mask q.1 - q.1 - k,i:=q.1,perturb:=q.2,dummy:=none }
 | 0,_=>by rw [Nat.add_zero,e]; rfl
 | k + 1,l=>by
  have ih:=run e k (by omega)
  show adv mask (stp mask h (n + k))=_;rw [ih];unfold adv;rw [if_pos (by dsimp only; omega)]
  dsimp only
  have:SetTable.runEnd mask q.1 - q.1 - k - 1=SetTable.runEnd mask q.1 - q.1 - (k + 1):=by omega
  rw [this];rfl
theorem jn (e:stp mask h n=St mask q) {k:Nat} (l:k<=SetTable.runEnd mask q.1 - q.1):J mask h (n + k)=q.1 + k:=by
 unfold J; rw [run e k l]
theorem next (e:stp mask h n=St mask q):stp mask h (n + (SetTable.runEnd mask q.1 - q.1 + 1))=St mask (lp mask q):=by
 have r:=run e _ (BI _);show adv mask (stp mask h (n + (SetTable.runEnd mask q.1 - q.1)))=_;rw [r];unfold adv;rw [if_neg (by dsimp only; omega)]
 rfl
theorem runs (mask:Nat) (h:Int):∀ m,∃ n,n<=10 * m/\stp mask h n=St mask (it (lp mask) m (q0 mask h))
 | 0=>⟨0,BI _,rfl⟩
 | m + 1=>by
  obtain ⟨n,l,e⟩:=runs mask h m;refine ⟨_,?_,next e⟩;have:SetTable.runEnd mask (it (lp mask) m (q0 mask h)).1<=(it (lp mask) m (q0 mask h)).1 + 9:=by unfold SetTable.runEnd; split <;> omega
  omega
theorem pert (mask:Nat) (q:Nat × Nat):∀ m,(it (lp mask) m q).2=q.2 / 32 ^ m
 | 0=>by simp [it]
 | m + 1=>by
  show (it (lp mask) m q).2 / 32=_;rw [pert mask q m,Nat.div_div_eq_div_mul,Nat.pow_succ]
def fm (mask i:Nat):Nat:=(i * 5 + 1) % (mask + 1)
theorem lp0 (mask i:Nat):lp mask (i,0)=(fm mask i,0):=by
 show ((i * 5 + 1 + 0 / 32) % (mask + 1),0 / 32)=_;rw [Nat.zero_div,Nat.add_zero]; rfl
theorem oF (mask i:Nat):∀ q,it (lp mask) q (i,0)=(it (fm mask) q i,0)
 | 0=>rfl
 | q + 1=>by show lp mask (it (lp mask) q (i,0))=_; rw [oF mask i q,lp0]; rfl
theorem yn (h:Int):SetTable.bits h < 2 ^ 64:=by
 unfold SetTable.bits;have h1:=Dq h (b:=(2 ^ 64:Int)) (by decide)
 have h2:=Dr h (b:=(2 ^ 64:Int)) (by decide)
 omega
structure Full (mask:Nat):Prop where
 z:it (fm mask) (mask + 1) 0=0
 a:∀ j,j<=mask->∃ q,q<=mask/\it (fm mask) q 0=j
def orb (mask:Nat):Nat->Nat->Nat->Nat
 | 0,_,acc=>acc
 | n + 1,i,acc=>orb mask n (fm mask i) (acc ||| (1 <<< i))
theorem oG (mask j:Nat):∀ n i acc,(orb mask n i acc).testBit j=true->acc.testBit j=true\/∃ q,q < n/\it (fm mask) q i=j
 | 0,i,acc,h=>.inl h
 | n + 1,i,acc,h=>by
  rcases oG mask j n (fm mask i) (acc ||| (1 <<< i)) h with h | ⟨q,l,e⟩
  ·rw [Nat.testBit_or,Nat.one_shiftLeft,Nat.testBit_two_pow,Bool.or_eq_true,Df] at h
   rcases h with h | h
   ·exact .inl h
   ·exact .inr ⟨0,by omega,h⟩
  ·refine .inr ⟨q + 1,by omega,?_⟩
   rw [Nat.add_comm,eC];exact e
theorem gA (h1:orb mask (mask + 1) 0 0=2 ^ (mask + 1) - 1) (h2:it (fm mask) (mask + 1) 0=0):Full mask:=by
 refine ⟨h2,fun j hj=>?_⟩
 have:=oG mask j (mask + 1) 0 0 (by rw [h1,Nat.testBit_two_pow_sub_one]; exact Co (by omega))
 rcases this with h | ⟨q,l,e⟩
 ·simp at h
 ·exact ⟨q,by omega,e⟩
theorem full7:Full 7:=gA ∅ ∅
theorem full31:Full 31:=gA ∅ ∅
theorem full127:Full 127:=gA ∅ ∅
theorem full511:Full 511:=gA ∅ ∅
theorem Full.from (F:Full mask) (hi:i<=mask) (hj:j<=mask):∃ q,q<=mask/\it (fm mask) q i=j:=by
 obtain ⟨a,la,ea⟩:=F.a i hi;obtain ⟨b,lb,eb⟩:=F.a j hj
 by_cases h:a<=b
 ·refine ⟨b - a,by omega,?_⟩
  rw [<- ea,<- eC,show a + (b - a)=b by omega,eb]
 ·refine ⟨mask + 1 - a + b,by omega,?_⟩
  rw [<- ea,<- eC,show a + (mask + 1 - a + b)=(mask + 1) + b by omega,eC,F.z,eb]
theorem Full.leap (F:Full mask) (h:Int) (hj:j<=mask):∃ m,m<=13 + mask/\(it (lp mask) m (q0 mask h)).1=j:=by
 have p:(it (lp mask) 13 (q0 mask h)).2=0:=by
  rw [pert];have:=yn h;exact Nat.div_eq_of_lt (Cd this (by decide))
 obtain ⟨i,ei⟩:∃ i,it (lp mask) 13 (q0 mask h)=(i,0):=⟨_,Prod.ext rfl p⟩;have li:i<=mask:=by
  have:=jk mask (it (lp mask) 12 (q0 mask h));have e2:lp mask (it (lp mask) 12 (q0 mask h))=(i,0):=ei;rw [e2] at this;exact this
 obtain ⟨q,lq,eq⟩:=F.from li hj;exact ⟨13 + q,by omega,by rw [eC,ei,oF,eq]⟩
theorem Full.cover (F:Full mask) (h:Int) (hj:j<=mask):∃ n,n<=10 * (13 + mask)/\J mask h n=j:=by
 obtain ⟨m,lm,em⟩:=F.leap h hj;obtain ⟨n,ln,en⟩:=runs mask h m;exact ⟨n,by omega,by unfold J; rw [en]; exact em⟩
theorem Full.first (F:Full mask) (h:Int){j:Nat} (hj:j<=mask) (nj:j ∉ pl):∃ N,N<=10 * (13 + mask)/\J mask h N ∉ pl/\∀ l,l < N->J mask h l∈pl:=by
 obtain ⟨n,ln,en⟩:=F.cover h hj;have ex:∃ n,J mask h n ∉ pl:=⟨n,by rw [en]; exact nj⟩
 have key:∀ n,J mask h n ∉ pl->∃ N,N<=n/\J mask h N ∉ pl/\∀ l,l < N->J mask h l∈pl:=by
  intro n
  induction n using Nat.strongRecOn with
  | ind n ih =>
   intro hn
   by_cases c:∃ l,l < n/\J mask h l ∉ pl
   ·obtain ⟨l,ll,nl⟩:=c
    obtain ⟨N,lN,r⟩:=ih l ll nl;exact ⟨N,by omega,r⟩
   ·refine ⟨n,BI _,hn,fun l ll=>?_⟩
    by_cases m:J mask h l∈pl
    ·exact m
    ·exact absurd ⟨l,ll,m⟩ c
 obtain ⟨N,lN,r⟩:=key n (by rw [en]; exact nj)
 exact ⟨N,by omega,r⟩
theorem oH (nd:pl.Nodup) (l:pl.length<=mask):∃ j,j<=mask/\j ∉ pl:=by
 by_cases c:∃ j,j<=mask/\j ∉ pl
 ·exact c
 ·have sub:(List.range (mask + 1)) ⊆ pl:=fun j hj=>by
   by_cases m:j∈pl
   ·exact m
   ·exact absurd ⟨j,by have:=Cj.mp hj; omega,m⟩ c
  have:=(List.nodup_range (n:=mask + 1)).length_le_of_subset sub;rw [Cy] at this;omega
end ST
end L2

namespace L2
open PySem
namespace ST
variable{P:List Nat}{i j:Nat}{z:Nat × (Int × Value)}{Z:Zs}{t:SetTable}{es:Array (Int × Value)}{h:Int}
abbrev Zs:=List (Nat × (Int × Value))
structure Tb (t:SetTable) (es:Array (Int × Value)) (Z:Zs):Prop where
 pl:t.place=(Z.map (·.1)).toArray
 es:es=(Z.map (·.2)).toArray
 du:t.dummies=#[]
 up:(Z.map (·.1)).Pairwise (· < ·)
 le:∀ z∈Z,z.1<=t.mask
abbrev pls (Z:Zs):List Nat:=Z.map (·.1)
theorem yo (P:List Nat) (up:P.Pairwise (· < ·)) (j:Nat):∀ fuel lo hi,hi - lo<=fuel->lo<=hi->hi<=P.length->(∀ (i:Nat) (h:i < P.length),i < lo->P[i] < j)->(∀ (i:Nat) (h:i < P.length),hi<=i->j<=P[i]) ->
  SetTable.below.go P.toArray j fuel lo hi<=P.length/\(∀ (i:Nat) (h:i < P.length),i < SetTable.below.go P.toArray j fuel lo hi->P[i] < j)/\∀ (i:Nat) (h:i < P.length),SetTable.below.go P.toArray j fuel lo hi<=i->j<=P[i]:=by
 have mono:=List.pairwise_iff_getElem.mp up;intro fuel
 induction fuel with
 | zero =>
  intro lo hi hf hl hh h1 h2;have:lo=hi:=by omega
  subst this;exact ⟨hh,h1,h2⟩
 | succ fuel ih =>
  intro lo hi hf hl hh h1 h2;unfold SetTable.below.go
  by_cases c:lo < hi
  ·rw [if_pos c]
   dsimp only
   have lm:(lo + hi) / 2 < P.length:=by omega
   have ed:P.toArray.getD ((lo + hi) / 2) j=P[(lo + hi) / 2]:=by simp [Array.getD,lm]
   by_cases d:P.toArray.getD ((lo + hi) / 2) j < j
   ·rw [if_pos d]
    rw [ed] at d;refine ih _ _ (by omega) (by omega) hh (fun i h l=>?_) h2
    by_cases e:i=(lo + hi) / 2
    ·subst e; exact d
    ·exact Nat.lt_trans (mono i _ h lm (by omega)) d
   ·rw [if_neg d]
    rw [ed] at d;refine ih _ _ (by omega) (by omega) (by omega) h1 (fun i h l=>?_)
    by_cases e:i=(lo + hi) / 2
    ·subst e; omega
    ·have:=mono _ i lm h (by omega)
     omega
  ·rw [if_neg c]
   have:lo=hi:=by omega
   subst this;exact ⟨hh,h1,h2⟩
theorem oI (up:P.Pairwise (· < ·)) (j:Nat):SetTable.below P.toArray j<=P.length/\(∀ (i:Nat) (h:i < P.length),i < SetTable.below P.toArray j->P[i] < j)/\∀ (i:Nat) (h:i < P.length),SetTable.below P.toArray j<=i->j<=P[i] :=
 yo P up j _ 0 _ (by simp) (Ck _) (by simp) (fun i h l=>absurd l (Nat.not_lt_zero _)) (fun i h l=>absurd h (by simp at l; omega))
theorem fE (up:P.Pairwise (· < ·)) (e:P[i]?=some j):SetTable.below P.toArray j=i:=by
 obtain ⟨l,h1,h2⟩:=oI up j;obtain ⟨li,ei⟩:=BX.mp e;have a:SetTable.below P.toArray j<=i:=by
  by_cases c:SetTable.below P.toArray j<=i
  ·exact c
  ·have:=h1 i li (by omega)
   omega
 by_cases c:SetTable.below P.toArray j < i
 ·have lb:SetTable.below P.toArray j < P.length:=by omega
  have:=h2 _ lb (BI _);have:=List.pairwise_iff_getElem.mp up _ _ lb li c;omega
 ·omega
section
variable {t:SetTable}{es:Array (Int × Value)}{Z:Zs}
theorem Tb.size (T:Tb t es Z):es.size=Z.length:=by rw [T.es]; simp
theorem Tb.psize (T:Tb t es Z):t.place.size=Z.length:=by rw [T.pl]; simp
theorem Tb.fits (T:Tb t es Z) (l:Z.length<=t.mask):t.fits es.size=true:=by
 have e:t.fill=Z.length:=by unfold SetTable.fill; rw [T.psize,T.du]; simp
 unfold SetTable.fits;rw [e,T.psize,T.size];simp [l]
theorem Tb.live (T:Tb t es Z) (e:(pls Z)[i]?=some j):t.slot j=.live i:=by
 unfold SetTable.slot;rw [T.pl,fE T.up e]
 dsimp only
 rw [DC,e];simp
theorem Tb.empty (T:Tb t es Z) (n:j ∉ pls Z):t.slot j=.empty:=by
 unfold SetTable.slot;rw [T.pl,T.du]
 dsimp only
 rw [DC];have:((Z.map (·.1))[SetTable.below (Z.map (·.1)).toArray j]? == some j)=false:=by
  rw [CB];intro e;exact n (BO e)
 rw [this];rfl
theorem Tb.hash (T:Tb t es Z) (e:Z[i]?=some z):(es[i]?.map (·.1)).getD 0=z.2.1:=by
 rw [T.es,DC,BN,e];rfl
theorem Tb.val (T:Tb t es Z) (e:Z[i]?=some z):es[i]?=some z.2:=by
 rw [T.es,DC,BN,e];rfl
end
def ins (Z:Zs) (z:Nat × (Int × Value)):Zs:=Z.take (SetTable.below (pls Z).toArray z.1)++z :: Z.drop (SetTable.below (pls Z).toArray z.1)
theorem eZ{y:Nat × (Int × Value)}:y∈ins Z z↔y=z\/y∈Z:=by
 unfold ins;rw [BP,BV]
 constructor
 ·rintro (h | h | h)
  ·exact .inr (List.mem_of_mem_take h)
  ·exact .inl h
  ·exact .inr (List.mem_of_mem_drop h)
 ·rintro (h | h)
  ·exact .inr (.inl h)
  ·rw [<- List.take_append_drop (SetTable.below (pls Z).toArray z.1) Z,BP] at h
   exact h.elim .inl fun h=>.inr (.inr h)
theorem yp (Z:Zs) (z:Nat × (Int × Value)):(ins Z z).length=Z.length + 1:=by
 unfold ins;rw [BU,Cm,B8,List.length_drop];omega
theorem oJ {α:Type} (l:List α) (p:Nat) (x:α):SetTable.insertAt l.toArray p x=(l.take p++x :: l.drop p).toArray:=by
 apply Array.ext';rw [SetTable.toList_insertAt]
theorem Tb.put (T:Tb t es Z){x:Value} (l:j<=t.mask) (n:j ∉ pls Z) (t':SetTable) (ep:t'.place=(t.put j).1.place) (ed:t'.dummies=(t.put j).1.dummies) (em:t'.mask=t.mask):Tb t' (SetTable.insertAt es (t.put j).2 (h,x)) (ins Z (j,(h,x))):=by
 have e2:(t.put j).2=SetTable.below (pls Z).toArray j:=by unfold SetTable.put; rw [T.pl]
 refine ⟨?_,?_,?_,?_,?_⟩
 ·rw [ep]
  show SetTable.insertAt t.place (SetTable.below t.place j) j=_;rw [T.pl,oJ];unfold ins;rw [BL,B4,List.map_take,List.map_drop]
 ·rw [e2,T.es,oJ]
  unfold ins;rw [BL,B4,List.map_take,List.map_drop]
 ·rw [ed]
  show (if SetTable.has t.dummies j then SetTable.eraseAt t.dummies (SetTable.below t.dummies j) else t.dummies)=#[];rw [T.du];rfl
 ·obtain ⟨lb,h1,h2⟩:=oI T.up j
  unfold ins;rw [BL,B4,List.map_take,List.map_drop];have up:=T.up;rw [<- List.take_append_drop (SetTable.below (pls Z).toArray j) (Z.map (·.1)),List.pairwise_append] at up;have lo:∀ a∈(Z.map (·.1)).take (SetTable.below (pls Z).toArray j),a < j:=fun a ha=>by
   obtain ⟨i,hi⟩:=Dg ha;obtain ⟨li,ei⟩:=BX.mp hi;rw [B8] at li;rw [<- ei,List.getElem_take];exact h1 i (by omega) (by show i < SetTable.below (pls Z).toArray j; omega)
  have hi:∀ a∈(Z.map (·.1)).drop (SetTable.below (pls Z).toArray j),j < a:=fun a ha=>by
   have ma:=List.mem_of_mem_drop ha;obtain ⟨i,hi⟩:=Dg ha;obtain ⟨li,ei⟩:=BX.mp hi;rw [List.length_drop] at li;have:=h2 (SetTable.below (pls Z).toArray j + i) (by omega) (by show SetTable.below (pls Z).toArray j<=_; omega)
   rw [List.getElem_drop] at ei;have ne:a≠j:=fun z=>n (by rw [<- z]; exact ma)
   have le:j<=a:=by rw [<- ei]; exact this
   omega
  rw [List.pairwise_append,List.pairwise_cons];refine ⟨up.1,⟨hi,up.2.1⟩,fun a ha b hb=>?_⟩
  rcases BV.mp hb with rfl | hb
  ·exact lo a ha
  ·exact up.2.2 a ha b hb
 ·intro z hz
  rw [em];rcases eZ.mp hz with rfl | hz
  ·exact l
  ·exact T.le z hz
theorem yq (T:Tb t es Z){N:Nat} (hN:J t.mask h N ∉ pls Z) (hl:∀ l,l < N->J t.mask h l∈pls Z) :
  ∀ (fuel n:Nat),n<=N->N - n < fuel ->
   (∃ (m i:Nat) (z:Nat × (Int × Value)),n<=m/\m < N/\Z[i]?=some z/\z.1=J t.mask h m/\z.2.1=h/\SetTable.probe.go t (fun i=>(es[i]?.map (·.1)).getD 0) h fuel (stp t.mask h n)=some (.candidate (J t.mask h m) i (stp t.mask h (m + 1)))/\∀ (l i':Nat) (z':Nat × (Int × Value)),n<=l->l < m->Z[i']?=some z'->z'.1=J t.mask h l->z'.2.1≠h)
   \/ (SetTable.probe.go t (fun i=>(es[i]?.map (·.1)).getD 0) h fuel (stp t.mask h n)=some (.empty (J t.mask h N) none)/\∀ (l i':Nat) (z':Nat × (Int × Value)),n<=l->l < N->Z[i']?=some z'->z'.1=J t.mask h l->z'.2.1≠h):=by
 intro fuel
 induction fuel with
 | zero=>intro n a b; omega
 | succ fuel ih =>
  intro n hn hf;have ej:(stp t.mask h n).j=J t.mask h n:=rfl
  by_cases c:n=N
  ·refine .inr ⟨?_,fun l i' z' a b=>by omega⟩
   unfold SetTable.probe.go;rw [ej,T.empty (by rw [c]; exact hN)]
   dsimp only
   rw [(jm t.mask h n).2,c]
  ·have hm:=hl n (by omega)
   obtain ⟨i,hi⟩:=Dg hm;have hz:∃ z,Z[i]?=some z/\z.1=J t.mask h n:=by
    rw [BN] at hi;exact B5.mp hi
   obtain ⟨z,ez,e1⟩:=hz;have uniq:∀ (i':Nat) (z':Nat × (Int × Value)),Z[i']?=some z'->z'.1=J t.mask h n->z'=z:=fun i' z' e e'=>by
    have e3:(pls Z)[i']?=some (J t.mask h n):=by rw [BN,e]; simp [e']
    have b1:=fE T.up e3;have b2:=fE T.up hi;have:i'=i:=by rw [<- b1,<- b2]
    subst this;rw [e] at ez;exact Ca ez
   have eh:=T.hash ez;have unf:SetTable.probe.go t (fun i=>(es[i]?.map (·.1)).getD 0) h (fuel + 1) (stp t.mask h n)=if z.2.1 == h then some (.candidate (J t.mask h n) i (stp t.mask h (n + 1))) else SetTable.probe.go t (fun i=>(es[i]?.map (·.1)).getD 0) h fuel (stp t.mask h (n + 1)):=by
    rw [SetTable.probe.go];rw [ej,T.live hi]
    dsimp only
    rw [eh];rfl
   by_cases q:(z.2.1 == h)=true
   ·refine .inl ⟨n,i,z,BI _,by omega,ez,e1,by simpa using q,by rw [unf,if_pos q],fun l i' z' a b=>by omega⟩
   ·have nq:z.2.1≠h:=fun e=>q (by rw [e]; simp)
    have stepd:∀ (l i':Nat) (z':Nat × (Int × Value)),n<=l->¬ n + 1<=l->Z[i']?=some z'->z'.1=J t.mask h l->z'.2.1≠h:=fun l i' z' a b e e'=>by
     have:l=n:=by omega
     subst this;rw [uniq i' z' e e'];exact nq
    rw [unf,if_neg q];rcases ih (n + 1) (by omega) (by omega) with ⟨m,i2,z2,a,b,c2,d,e,f,g⟩ | ⟨f,g⟩
    ·exact .inl ⟨m,i2,z2,by omega,b,c2,d,e,f,fun l i' z' x y u v=>if w:n + 1<=l then g l i' z' w y u v else stepd l i' z' x w u v⟩
    ·exact .inr ⟨f,fun l i' z' x y u v=>if w:n + 1<=l then g l i' z' w y u v else stepd l i' z' x w u v⟩
end ST
end L2

namespace L2
open PySem
namespace ST
variable{ow:Array (Option Nat)}{j mask:Nat}
def Tk (ow:Array (Option Nat)) (j i:Nat):Prop:=ow[j]?=some (some i)
theorem notNone (l:j < ow.size) (h:(ow.getD j (some 0)).isNone=false):∃ i,Tk ow j i:=by
 rw [Array.getD_eq_getD_getElem?,Array.getElem?_eq_getElem l] at h;cases e:ow[j] with
 | none=>rw [e] at h; cases h
 | some i=>exact ⟨i,by show ow[j]?=_; rw [Array.getElem?_eq_getElem l,e]⟩
theorem yr (h:(ow.getD j (some 0)).isNone=true):ow[j]?=some none:=by
 rw [Array.getD_eq_getD_getElem?] at h;cases e:ow[j]? with
 | none=>rw [e] at h; cases h
 | some o =>
  rw [e] at h;cases o with
  | none=>rfl
  | some i=>cases h
theorem yt{h:Int} (so:ow.size=mask + 1):∀ (fuel n:Nat) (q:Nat × Nat),stp mask h n=St mask q->q.1<=mask->(∀ l,l < n->∃ i,Tk ow (J mask h l) i)->(∃ m,m < fuel/\ow[(it (lp mask) m q).1]?=some none) ->
  ∃ N,SetTable.layClean.free mask ow fuel q.1 q.2=some (J mask h N)/\ow[J mask h N]?=some none/\∀ l,l < N->∃ i,Tk ow (J mask h l) i:=by
 intro fuel
 induction fuel with
 | zero=>rintro n q e lq tk ⟨m,lm,_⟩; omega
 | succ fuel ih =>
  rintro n q e lq tk ⟨m,lm,em⟩;have rl:=jj lq;have unf:SetTable.layClean.free mask ow (fuel + 1) q.1 q.2=(match (List.range (SetTable.runEnd mask q.1 + 1 - q.1)).find? fun k=>(ow.getD (q.1 + k) (some 0)).isNone with
   | some k=>some (q.1 + k)
   | none=>SetTable.layClean.free mask ow fuel (lp mask q).1 (lp mask q).2):=by rw [SetTable.layClean.free]; rfl
  rw [unf];cases ef:(List.range (SetTable.runEnd mask q.1 + 1 - q.1)).find? fun k=>(ow.getD (q.1 + k) (some 0)).isNone with
  | some k =>
   obtain ⟨pk,mk,bk⟩:=List.find?_range_eq_some.mp ef;have mk:=Cj.mp mk;have ej:=jn e (k:=k) (by omega)
   refine ⟨n + k,by rw [ej],by rw [ej]; exact yr pk,fun l ll=>?_⟩
   by_cases c:l < n
   ·exact tk l c
   ·have lk:l - n < k:=by omega
    have b:=bk (l - n) lk;have e2:J mask h l=q.1 + (l - n):=by
     have:=jn e (k:=l - n) (by omega)
     rw [show n + (l - n)=l by omega] at this
     exact this
    rw [e2];exact notNone (by omega) (by simpa using b)
  | none =>
   have all:=List.find?_eq_none.mp ef;have all2:∀ k,k < SetTable.runEnd mask q.1 + 1 - q.1->∃ i,Tk ow (q.1 + k) i:=fun k lk=>notNone (by omega) (by
    cases hx:(ow.getD (q.1 + k) (some 0)).isNone with
    | false=>rfl
    | true=>exact absurd hx (all k (Cj.mpr lk)))
   have m0:m≠0:=fun z=>by
    subst z;obtain ⟨i,hi⟩:=all2 0 (by omega)
    have em:ow[q.1]?=some none:=em;have hi:ow[q.1]?=some (some i):=hi;rw [em] at hi;cases hi
   obtain ⟨m',rfl⟩:=Nat.exists_eq_succ_of_ne_zero m0;have em2:it (lp mask) (m' + 1) q=it (lp mask) m' (lp mask q):=by rw [Nat.add_comm,eC]; rfl
   refine ih (n + (SetTable.runEnd mask q.1 - q.1 + 1)) (lp mask q) (next e) (jk mask q) (fun l ll=>?_) ⟨m',by omega,by rw [<- em2]; exact em⟩
   by_cases c:l < n
   ·exact tk l c
   ·have e2:J mask h l=q.1 + (l - n):=by
     have:=jn e (k:=l - n) (by omega)
     rw [show n + (l - n)=l by omega] at this
     exact this
    rw [e2];exact all2 _ (by omega)
structure Ow (mask:Nat) (hs:List Int) (js:List Nat) (ow:Array (Option Nat)):Prop where
 size:ow.size=mask + 1
 len:js.length=hs.length
 nd:js.Nodup
 tk:∀ j i,Tk ow j i↔js[i]?=some j
 no:∀ j,j<=mask->j ∉ js->ow[j]?=some none
 le:∀ j∈js,j<=mask
 re:∀ (i:Nat) (h:Int) (j:Nat),hs[i]?=some h->js[i]?=some j->∃ m,J mask h m=j/\∀ l,l < m->J mask h l∈js
theorem Ow.nil (mask:Nat):Ow mask [] [] (Array.replicate (mask + 1) none):=by
 refine ⟨by simp,rfl,List.nodup_nil,fun j i=>⟨fun h=>?_,fun h=>by simp at h⟩,fun j l _=>?_,fun j h=>by simp at h,fun i h j e=>by simp at e⟩
 ·have h:(Array.replicate (mask + 1) (none:Option Nat))[j]?=some (some i):=h
  rw [Array.getElem?_replicate] at h
  split at h <;> cases h
 ·rw [Array.getElem?_replicate,if_pos (by omega)]
theorem Ow.step (F:Full mask) {hs:List Int}{js:List Nat} (o:Ow mask hs js ow) (l:hs.length<=mask) (h:Int) :
  ∃ j,SetTable.layClean.free mask ow (SetTable.turns mask) (SetTable.bits h % (mask + 1)) (SetTable.bits h)=some j/\Ow mask (hs++[h]) (js++[j]) (ow.setIfInBounds j (some hs.length)):=by
 obtain ⟨j0,l0,n0⟩:=oH o.nd (by rw [o.len]; exact l)
 obtain ⟨m,lm,em⟩:=F.leap h l0;obtain ⟨N,eN,fN,tN⟩:=yt o.size (SetTable.turns mask) 0 (q0 mask h) rfl (by show SetTable.bits h % (mask + 1)<=mask; have:=Nat.mod_lt (SetTable.bits h) (show 0 < mask + 1 by omega); omega) (fun l z=>absurd z (Nat.not_lt_zero _)) ⟨m,by show m < mask + 15; omega,by rw [em]; exact o.no j0 l0 n0⟩
 have lj:=J_le mask h N;have nj:J mask h N ∉ js:=fun hm=>by
  obtain ⟨i,hi⟩:=Dg hm;have:=(o.tk _ _).mpr hi;have this:ow[J mask h N]?=some (some i):=this;rw [fN] at this;cases this
 have tj:∀ l,l < N->J mask h l∈js:=fun l ll=>by
  obtain ⟨i,hi⟩:=tN l ll;exact BO ((o.tk _ _).mp hi)
 have ls:(J mask h N) < ow.size:=by rw [o.size]; omega
 refine ⟨J mask h N,eN,by simp [o.size],by simp [o.len],?_,fun j i=>?_,fun j hj nm=>?_,fun j hj=>?_,fun i h' j e1 e2=>?_⟩
 ·rw [C3]
  refine ⟨o.nd,by simp,fun a ha b hb=>?_⟩
  rw [B6.mp hb];exact fun z=>nj (by rw [<- z]; exact ha)
 ·show (ow.setIfInBounds (J mask h N) (some hs.length))[j]?=some (some i)↔_
  rw [Array.getElem?_setIfInBounds]
  by_cases c:J mask h N=j
  ·rw [if_pos c,if_pos ls]
   subst c
   constructor
   ·intro z
    have z:hs.length=i:=by simpa using z
    subst z;rw [CV (by rw [o.len]; exact BI _),o.len,Nat.sub_self]; rfl
   ·intro z
    by_cases li:i < js.length
    ·rw [CM li] at z
     exact absurd (BO z) nj
    ·have:=(BX.mp z).1
     rw [BU,Cn] at this;have:i=hs.length:=by rw [<- o.len]; omega
     rw [this]
  ·rw [if_neg c]
   rw [show (ow[j]?=some (some i))=Tk ow j i from rfl,o.tk]
   constructor
   ·intro z; rw [CM (BX.mp z).1]; exact z
   ·intro z
    by_cases li:i < js.length
    ·rw [CM li] at z; exact z
    ·have l2:=(BX.mp z).1
     rw [BU,Cn] at l2;have:i=js.length:=by omega
     rw [this,CV (BI _),Nat.sub_self] at z;simp at z;exact absurd z c
 ·rw [BP,not_or,B6] at nm
  rw [Array.getElem?_setIfInBounds,if_neg (fun z=>nm.2 z.symm)]
  exact o.no j hj nm.1
 ·rcases BP.mp hj with z | z
  ·exact o.le j z
  ·rw [B6.mp z]; exact lj
 ·by_cases li:i < js.length
  ·rw [CM li] at e2
   rw [CM (by rw [<- o.len]; exact li)] at e1
   obtain ⟨m,a,b⟩:=o.re i h' j e1 e2;exact ⟨m,a,fun l ll=>Du _ (b l ll)⟩
  ·have l2:=(BX.mp e2).1
   rw [BU,Cn] at l2;have ei:i=js.length:=by omega
   rw [ei,CV (BI _),Nat.sub_self] at e2;rw [ei,o.len,CV (BI _),Nat.sub_self] at e1;simp at e1 e2;subst e1;exact ⟨N,e2,fun l ll=>Du _ (tj l ll)⟩
theorem oK (F:Full mask):∀ (rest hs:List Int) (js:List Nat) (ow:Array (Option Nat)),Ow mask hs js ow->hs.length + rest.length<=mask + 1->∃ js' ow',rest.foldl (fun acc h=>do
   let (owner,k) <- acc
   let j <- SetTable.layClean.free mask owner (SetTable.turns mask) (SetTable.bits h % (mask + 1)) (SetTable.bits h)
   pure (owner.setIfInBounds j (some k),k + 1)) (some (ow,hs.length))=some (ow',hs.length + rest.length)/\Ow mask (hs++rest) js' ow'
 | [],hs,js,ow,o,_=>⟨js,ow,rfl,by rw [C8]; exact o⟩
 | h :: rest,hs,js,ow,o,l=>by
  rw [Cm] at l;obtain ⟨j,ej,o'⟩:=o.step F (by omega) h
  obtain ⟨js',ow',e,o2⟩:=oK F rest (hs++[h]) (js++[j]) _ o' (by rw [BU,Cn]; omega)
  refine ⟨js',ow',?_,by rw [C6] at o2; exact o2⟩
  rw [List.foldl_cons];have e0:(do
   let (owner,k) <- (some (ow,hs.length):Option (Array (Option Nat) × Nat))
   let j <- SetTable.layClean.free mask owner (SetTable.turns mask) (SetTable.bits h % (mask + 1)) (SetTable.bits h)
   pure (owner.setIfInBounds j (some k),k + 1))=some (ow.setIfInBounds j (some hs.length),hs.length + 1):=by
   show (SetTable.layClean.free mask ow (SetTable.turns mask) (SetTable.bits h % (mask + 1)) (SetTable.bits h) >>= _)=_;rw [ej];rfl
  rw [e0];rw [BU,Cn] at e;rw [e,Cm]
  congr 2
  omega
theorem yu (F:Full mask) (hs:List Int) (l:hs.length<=mask + 1):∃ js ow,SetTable.layClean mask hs.toArray=some ow/\Ow mask hs js ow:=by
 obtain ⟨js,ow,e,o⟩:=oK F hs [] [] _ (Ow.nil mask) (by simpa using l)
 refine ⟨js,ow,?_,by simpa using o⟩
 unfold SetTable.layClean;rw [<- Array.foldl_toList];show Option.map _ (List.foldl _ (some (_,0)) hs)=_;have e:List.foldl _ (some (Array.replicate (mask + 1) none,0)) hs=_:=e;rw [e];rfl
def relZ (Z:Zs) (ow:Array (Option Nat)) (mask:Nat):Zs:=(List.range (mask + 1)).filterMap fun j=>(ow.getD j none).bind fun i=>(Z[i]?).map fun z=>(j,z.2)
theorem eE{i:Nat}:ow.getD j none=some i↔Tk ow j i:=by
 rw [Array.getD_eq_getD_getElem?];unfold Tk;cases e:ow[j]? with
 | none=>simp
 | some o=>simp
theorem fF {Z:Zs}{y:Nat × (Int × Value)}:y∈relZ Z ow mask↔y.1<=mask/\∃ i z,Tk ow y.1 i/\Z[i]?=some z/\y.2=z.2:=by
 unfold relZ;rw [Dv]
 constructor
 ·rintro ⟨j,hj,e⟩
  have hj:=Cj.mp hj;obtain ⟨i,ei,e⟩:=Option.bind_eq_some_iff.mp e;obtain ⟨z,ez,e⟩:=B5.mp e;subst e;exact ⟨by show j<=mask; omega,i,z,eE.mp ei,ez,rfl⟩
 ·rintro ⟨l,i,z,tk,ez,e⟩
  refine ⟨y.1,Cj.mpr (by omega),?_⟩
  rw [eE.mpr tk];show ((Z[i]?).map fun z=>(y.1,z.2))=some y
  rw [ez];show some (y.1,z.2)=some y;rw [<- e]
theorem yv (Z:Zs) (ow:Array (Option Nat)) (mask:Nat):((relZ Z ow mask).map (·.1)).Pairwise (· < ·):=by
 unfold relZ;rw [List.pairwise_map];refine List.Pairwise.filterMap _ (fun a a' hlt b hb b' hb'=>?_) List.pairwise_lt_range
 obtain ⟨_,_,e⟩:=Option.bind_eq_some_iff.mp hb;obtain ⟨_,_,e⟩:=B5.mp e;obtain ⟨_,_,e'⟩:=Option.bind_eq_some_iff.mp hb';obtain ⟨_,_,e'⟩:=B5.mp e';subst e e';exact hlt
end ST
end L2

namespace L2
open PySem
namespace ST
variable{mask:Nat}{Z Z':Zs}{js:List Nat}{ow:Array (Option Nat)}{t t':SetTable}{es es':Array (Int × Value)}
theorem jo (Z:Zs) (ow:Array (Option Nat)) (hz:∀ j i,ow.getD j none=some i->∃ z,Z[i]?=some z):∀ r:List Nat,(r.filterMap fun j=>(ow.getD j none).map (j,·)).map (·.1)=(r.filterMap fun j=>(ow.getD j none).bind fun i=>(Z[i]?).map fun z=>(j,z.2)).map (·.1)
 | []=>rfl
 | j :: r=>by
  have ih:=jo Z ow hz r;rw [Dh,Dh];cases e:ow.getD j none with
  | none=>exact ih
  | some i =>
   obtain ⟨z,ez⟩:=hz j i e;have e2:((some i).bind fun i=>(Z[i]?).map fun z=>(j,z.2))=some (j,z.2):=by
    show (Z[i]?).map _=_;rw [ez]; rfl
   rw [e2];show j :: _=j :: _;rw [ih]
theorem oM (Z:Zs) (es:Array (Int × Value)) (he:es=(Z.map (·.2)).toArray) (ow:Array (Option Nat)) (hz:∀ j i,ow.getD j none=some i->∃ z,Z[i]?=some z):∀ r:List Nat,((r.filterMap fun j=>(ow.getD j none).map (j,·)).map (·.2)).filterMap (fun i=>es[i]?)=(r.filterMap fun j=>(ow.getD j none).bind fun i=>(Z[i]?).map fun z=>(j,z.2)).map (·.2)
 | []=>rfl
 | j :: r=>by
  have ih:=oM Z es he ow hz r;rw [Dh,Dh];cases e:ow.getD j none with
  | none=>exact ih
  | some i =>
   obtain ⟨z,ez⟩:=hz j i e;have e2:((some i).bind fun i=>(Z[i]?).map fun z=>(j,z.2))=some (j,z.2):=by
    show (Z[i]?).map _=_;rw [ez]; rfl
   have e3:es[i]?=some z.2:=by rw [he,DC,BN,ez]; rfl
   rw [e2];show List.filterMap _ (i :: _)=z.2 :: _;rw [Dh,e3];show z.2 :: _=z.2 :: _;rw [ih]
theorem Ow.z {mask:Nat}{js:List Nat}{ow:Array (Option Nat)} (o:Ow mask (Z.map (·.2.1)) js ow) (j i:Nat) (e:ow.getD j none=some i):∃ z,Z[i]?=some z:=by
 have:=(BX.mp ((o.tk j i).mp (eE.mp e))).1;rw [o.len,BF] at this;exact ⟨_,BJ this⟩
theorem yw{js:List Nat} (o:Ow mask (Z.map (·.2.1)) js ow):(relZ Z ow mask).length=Z.length:=by
 have e1:(relZ Z ow mask).length=(((List.range (mask + 1)).filterMap fun j=>(ow.getD j none).map (j,·)).map (·.2)).length:=by
  have:=Cs List.length (jo Z ow o.z (List.range (mask + 1)));rw [BF,BF] at this;rw [BF,this];rfl
 have n1:(((List.range (mask + 1)).filterMap fun j=>(ow.getD j none).map (j,·)).map (·.2)).Nodup:=by
  unfold List.Nodup;rw [List.pairwise_map];refine List.Pairwise.filterMap _ (fun a a' hlt b hb b' hb'=>?_) List.pairwise_lt_range
  obtain ⟨i,ei,e⟩:=B5.mp hb;obtain ⟨i',ei',e'⟩:=B5.mp hb';subst e e';intro z;have z:i=i':=z;subst z;have h1:=(o.tk _ _).mp (eE.mp ei);have h2:=(o.tk _ _).mp (eE.mp ei');rw [h1] at h2;have:=Ca h2;omega
 have p:=(List.perm_ext_iff_of_nodup n1 (List.nodup_range (n:=Z.length))).mpr fun i=>by
  rw [BQ,Cj]
  constructor
  ·rintro ⟨y,hy,rfl⟩
   obtain ⟨j,_,e⟩:=Dv.mp hy;obtain ⟨i,ei,e⟩:=B5.mp e;subst e;obtain ⟨z,ez⟩:=o.z j i ei;exact (BX.mp ez).1
  ·intro li
   have lj:i < js.length:=by rw [o.len,BF]; exact li
   have tk:=(o.tk js[i] i).mpr (BJ lj);exact ⟨(js[i],i),Dv.mpr ⟨js[i],Cj.mpr (by have:=o.le _ (List.getElem_mem lj); omega),by rw [eE.mpr tk]; rfl⟩,rfl⟩
 rw [e1,p.length_eq,Cy]
structure TI (t:SetTable) (es:Array (Int × Value)) (Z:Zs):Prop where
 tb:Tb t es Z
 re:∀ z∈Z,∃ m,J t.mask z.2.1 m=z.1/\∀ l,l < m->J t.mask z.2.1 l∈pls Z
 full:Full t.mask
 room:Z.length * 5 < t.mask * 3
 sz:t.mask=7\/t.mask=31\/t.mask=127\/t.mask=511
theorem TI.le{es:Array (Int × Value)} (T:TI t es Z):Z.length<=t.mask:=by have:=T.room; omega
theorem TI.gave{es:Array (Int × Value)}{Z:Zs} (T:TI t es Z):t.gaveWay=false:=by
 unfold SetTable.gaveWay;rcases T.sz with e | e | e | e <;> rw [e] <;> rfl
theorem TI.fresh (finger moves:Nat) (led:Bool):TI (SetTable.fresh finger moves led) #[] [] :=
 ⟨⟨rfl,rfl,rfl,List.Pairwise.nil,fun z h=>by simp at h⟩,fun z h=>by simp at h,full7,(by show 0 * 5 < 7 * 3; decide),.inl rfl⟩
theorem TI.free{es:Array (Int × Value)} (T:TI t es Z) (h:Int):∃ N,N < 10 * SetTable.turns t.mask/\J t.mask h N ∉ pls Z/\∀ l,l < N->J t.mask h l∈pls Z:=by
 have nd:(pls Z).Nodup:=T.tb.up.imp (fun h=>BS h)
 obtain ⟨j,lj,nj⟩:=oH nd (by rw [BF]; exact T.le)
 obtain ⟨N,lN,r⟩:=T.full.first h lj nj
 exact ⟨N,by show N < 10 * (t.mask + 15); omega,r⟩
theorem TI.put (T:TI t es Z) {h:Int}{x:Value}{N:Nat} (nN:J t.mask h N ∉ pls Z) (tN:∀ l,l < N->J t.mask h l∈pls Z) (t':SetTable) (ep:t'.place=(t.put (J t.mask h N)).1.place) (ed:t'.dummies=(t.put (J t.mask h N)).1.dummies) (em:t'.mask=t.mask) :
  Tb t' (SetTable.insertAt es (t.put (J t.mask h N)).2 (h,x)) (ins Z (J t.mask h N,(h,x)))/\∀ z∈ins Z (J t.mask h N,(h,x)),∃ m,J t'.mask z.2.1 m=z.1/\∀ l,l < m->J t'.mask z.2.1 l∈pls (ins Z (J t.mask h N,(h,x))):=by
 have sub:∀ j,j∈pls Z->j∈pls (ins Z (J t.mask h N,(h,x))):=fun j hj=>by
  obtain ⟨z,hz,e⟩:=BQ.mp hj;exact BQ.mpr ⟨z,eZ.mpr (.inr hz),e⟩
 refine ⟨T.tb.put (J_le _ _ _) nN t' ep ed em,fun z hz=>?_⟩
 rw [em];rcases eZ.mp hz with rfl | hz
 ·exact ⟨N,rfl,fun l ll=>sub _ (tN l ll)⟩
 ·obtain ⟨m,a,b⟩:=T.re z hz
  exact ⟨m,a,fun l ll=>sub _ (b l ll)⟩
theorem oN{es:Array (Int × Value)} (T:Tb t es Z):t.fill=Z.length:=by unfold SetTable.fill; rw [T.psize,T.du]; simp
theorem TI.stay {t:SetTable}{es:Array (Int × Value)}{Z:Zs} (T:TI t es Z) (em:t'.mask=t.mask) (b:Tb t' es' Z') (re:∀ z∈Z',∃ m,J t'.mask z.2.1 m=z.1/\∀ l,l < m->J t'.mask z.2.1 l∈pls Z') (nf:t'.tooFull=false):TI t' es' Z':=by
 refine ⟨b,re,by rw [em]; exact T.full,?_,by rw [em]; exact T.sz⟩
 unfold SetTable.tooFull at nf;rw [oN b] at nf;have:=of_decide_eq_false nf;omega
theorem TI.relay (T:TI t es Z) (em:t'.mask=t.mask) (b:Tb t' es' Z') (ln:Z'.length=Z.length + 1) (lm:Z'.length<=306) (tf:t'.tooFull=true) :
  SetTable.sizeAbove (SetTable.grown Z'.length)<=sizeLine/\∃ (t2:SetTable) (order:Array Nat) (Z2:Zs),t'.relaid (es'.map (·.1)) (SetTable.grown Z'.length)=some (t2,order)/\(order.filterMap (es'[·]?)).size=es'.size/\TI t2 (order.filterMap (es'[·]?)) Z2/\Z2.length=Z'.length/\∀ e,(∃ z∈Z2,z.2=e)↔∃ z∈Z',z.2=e:=by
 unfold SetTable.tooFull at tf;rw [oN b,em] at tf;have tf:=of_decide_eq_true tf;have rm:=T.room;have key:∃ mk,SetTable.sizeAbove (SetTable.grown Z'.length)=mk + 1/\Full mk/\(mk=7\/mk=31\/mk=127\/mk=511)/\Z'.length * 5 < mk * 3:=by
  rcases T.sz with e | e | e | e <;> rw [e] at tf rm
  ·have:Z'.length=5:=by omega
   rw [this];exact ⟨31,∅,full31,by simp,by decide⟩
  ·have:Z'.length=19:=by omega
   rw [this];exact ⟨127,∅,full127,by simp,by decide⟩
  ·have:Z'.length=77:=by omega
   rw [this];exact ⟨511,∅,full511,by simp,by decide⟩
  ·omega
 obtain ⟨mk,es1,F,ms,rm2⟩:=key;refine ⟨by rw [es1,BR]; rcases ms with e | e | e | e <;> omega,?_⟩
 have ehs:es'.map (·.1)=(Z'.map (·.2.1)).toArray:=by
  rw [b.es];simp [CA,Function.comp_def]
 obtain ⟨js,ow,ec,o⟩:=yu F (Z'.map (·.2.1)) (by rw [BF]; omega)
 have ez:=o.z;have ef:(((List.range (mk + 1)).filterMap fun j=>(ow.getD j none).map (j,·)).map (·.2)).toArray.filterMap (es'[·]?)=((relZ Z' ow mk).map (·.2)).toArray:=by
  apply Array.ext';rw [Array.toList_filterMap];show List.filterMap (fun i=>es'[i]?) _=_
  rw [show (((List.range (mk + 1)).filterMap fun j=>(ow.getD j none).map (j,·)).map (·.2)).toArray.toList=((List.range (mk + 1)).filterMap fun j=>(ow.getD j none).map (j,·)).map (·.2) from rfl,oM Z' es' b.es ow ez]
  rfl
 have el:=yw o;refine ⟨{ mask:=mk,place:=(((List.range (mk + 1)).filterMap fun j=>(ow.getD j none).map (j,·)).map (·.1)).toArray,dummies:=#[],finger:=t'.finger,led:=t'.led,moves:=t'.movedTo mk,plain:=t'.plain },(((List.range (mk + 1)).filterMap fun j=>(ow.getD j none).map (j,·)).map (·.2)).toArray,relZ Z' ow mk,?_,?_,?_,el,fun e=>?_⟩
 ·unfold SetTable.relaid
  rw [es1,Nat.add_sub_cancel];unfold SetTable.laid;rw [ehs,ec];rfl
 ·rw [ef,b.size]
  simp [el]
 ·rw [ef]
  refine ⟨⟨?_,rfl,rfl,yv Z' ow mk,fun z hz=>(fF.mp hz).1⟩,fun z hz=>?_,F,by rw [el]; exact rm2,ms⟩
  ·show (((List.range (mk + 1)).filterMap fun j=>(ow.getD j none).map (j,·)).map (·.1)).toArray=_
   rw [jo Z' ow ez];rfl
  ·obtain ⟨l,i,y,tk,ey,e⟩:=fF.mp hz
   have h1:(Z'.map (·.2.1))[i]?=some z.2.1:=by rw [BN,ey,e]; rfl
   obtain ⟨m,a,c⟩:=o.re i _ _ h1 ((o.tk _ _).mp tk);refine ⟨m,a,fun l ll=>?_⟩
   have mj:=c l ll;obtain ⟨i',ei'⟩:=Dg mj;have tk':=(o.tk _ _).mpr ei';obtain ⟨z',ez'⟩:=ez _ _ (eE.mpr tk');exact BQ.mpr ⟨(J mk z.2.1 l,z'.2),fF.mpr ⟨o.le _ mj,i',z',tk',ez',rfl⟩,rfl⟩
 ·constructor
  ·rintro ⟨z,hz,rfl⟩
   obtain ⟨_,i,y,_,ey,e⟩:=fF.mp hz;exact ⟨y,BO ey,e.symm⟩
  ·rintro ⟨z,hz,rfl⟩
   obtain ⟨i,ei⟩:=Dg hz;have li:i < js.length:=by rw [o.len,BF]; exact (BX.mp ei).1
   exact ⟨(js[i],z.2),fF.mpr ⟨o.le _ (List.getElem_mem li),i,z,(o.tk _ _).mpr (BJ li),ei,rfl⟩,rfl⟩
end ST
end L2

namespace L2
open PySem
namespace ST
variable{v:Value}{a:Addr}{Q:Bool->Shared->Prop}
def dd1 {α:Type} [DecidableEq α] (D:List α) (k:α):List α:=if k∈D then D else D++[k]
def ddup {α:Type} [DecidableEq α] (l:List α):List α:=l.foldl dd1 []
section
variable {α:Type} [DecidableEq α]
theorem yx (l:List α) (k:α):ddup (l++[k])=dd1 (ddup l) k:=by unfold ddup; rw [List.foldl_append]; rfl
theorem yy {l:List α}{i:Nat}{k:α} (e:l[i]?=some k):ddup (l.take (i + 1))=dd1 (ddup (l.take i)) k:=by rw [B0,e]; exact yx _ _
theorem oO (l:List α):∀ D:List α,D.Nodup->(l.foldl dd1 D).Nodup/\(∀ x,x∈l.foldl dd1 D↔x∈D\/x∈l)/\(l.foldl dd1 D).length<=D.length + l.length/\((l.foldl dd1 D).length=D.length + l.length↔(D++l).Nodup):=by
 induction l with
 | nil=>intro D n; exact ⟨n,by simp,by simp,by simp [n]⟩
 | cons k l ih =>
  intro D n;rw [List.foldl_cons]
  by_cases m:k∈D
  ·have e:dd1 D k=D:=by unfold dd1; rw [if_pos m]
   rw [e];obtain ⟨a,b,c,d⟩:=ih D n;refine ⟨a,fun x=>?_,by rw [Cm]; omega,⟨fun z=>?_,fun z=>?_⟩⟩
   ·rw [b,BV]
    constructor
    ·rintro (h | h)
     ·exact .inl h
     ·exact .inr (.inr h)
    ·rintro (h | rfl | h)
     ·exact .inl h
     ·exact .inl m
     ·exact .inr h
   ·rw [Cm] at z; omega
   ·rw [C3] at z
    exact absurd rfl (z.2.2 k m k (by simp))
  ·have e:dd1 D k=D++[k]:=by unfold dd1; rw [if_neg m]
   rw [e];have n2:(D++[k]).Nodup:=by
    rw [C3];refine ⟨n,by simp,fun a ha b hb=>?_⟩
    rw [B6.mp hb];exact fun z=>m (by rw [<- z]; exact ha)
   obtain ⟨a,b,c,d⟩:=ih (D++[k]) n2;refine ⟨a,fun x=>?_,by rw [BU,Cn] at c; rw [Cm]; omega,?_⟩
   ·rw [b,BP,B6,BV,or_assoc]
   ·rw [BU,Cn,C6] at d
    rw [Cm,show D.length + (l.length + 1)=D.length + 1 + l.length by omega]
    exact d
theorem ddup_le (l:List α):(ddup l).length<=l.length:=by have:=(oO l [] List.nodup_nil).2.2.1; simpa [ddup] using this
theorem ddup_nd (l:List α):decide ((ddup l).length=l.length)=decide l.Nodup:=by
 have:=(oO l [] List.nodup_nil).2.2.2;rw [List.nil_append,List.length_nil,Nat.zero_add] at this;exact decide_eq_decide.mpr this
end
theorem yz {α:Type} [DecidableEq α] {D:List α}{k:α} (m:k∈D):dd1 D k=D:=if_pos m
theorem yA {α:Type} [DecidableEq α] {D:List α}{k:α} (m:k ∉ D):dd1 D k=D++[k]:=if_neg m
section
variable {prog:Program}{w:World}{K:Type} [DecidableEq K] {knd:KeyKind prog w K}{A:Around}{E:Value->Shared->Prop}{s:Shared}
theorem yB (n:Nat) (h:carriedByValue v=true):ofAClassStatement n v=pure false:=by
 cases v with
 | ref a=>simp [carriedByValue] at h
 | _=>unfold ofAClassStatement; rfl
theorem yC (n:Nat) (h:carriedByValue v=true):∃ c,hashByValue n v=pure c:=by
 cases v with
 | ref a=>simp [carriedByValue] at h
 | _=>exact ⟨_,by unfold hashByValue; rfl⟩
theorem oP {ks:List K} (hk:IsTupleKey knd s.heap ks a) (h:Q false s):wpAny (model prog w) A (ofAClassStatement 8 (.ref a)) Q E s:=by
 have hT:=hk.typeIs;obtain ⟨o,items,n,ho,_,hd,hi⟩:=hk;unfold ofAClassStatement;refine BE (wpAny_typeOf hT ?_)
 dsimp only
 rw [if_pos (by rfl)]
 refine BE (BG ?_);simp only [Bool.not_true,Ct,Cc];refine BE (CN ho hd ?_)
 dsimp only
 refine BE ?_;rw [<- Array.forIn_toList];refine wpAny_forIn_list _ (fun rest r s'=>r.1=none/\s'=s/\∀ v∈rest,carriedByValue v=true) _ ?_ ?_ _ _ ⟨rfl,rfl,hi.byValue⟩
 ·rintro v rest r s' ⟨hr,rfl,hall⟩
  rw [yB _ (hall v CC)];refine BE (BG ?_);simp only [Ct,Cc];exact BG ⟨rfl,rfl,fun u hu'=>hall u (CD _ hu')⟩
 ·rintro ⟨r1,r2⟩ s' ⟨hr,rfl,_⟩
  simp only at hr;subst hr;exact BG h
theorem yE {ks:List K} (hk:IsTupleKey knd s.heap ks a) (h:∀ b,Q b s):wpAny (model prog w) A (hashByValue 8 (.ref a)) Q E s:=by
 have hT:=hk.typeIs;obtain ⟨o,items,n,ho,_,hd,hi⟩:=hk;unfold hashByValue;refine BE (wpAny_specialOf hT F.slot_tuple_hash.lookup ?_)
 dsimp only
 refine BE (CN ho hd ?_);refine BE ?_;show wpAny _ _ (forIn items _ _) _ _ s;rw [<- Array.forIn_toList];refine wpAny_forIn_list _ (fun rest r s'=>s'=s/\∀ v∈rest,carriedByValue v=true) _ ?_ ?_ _ _ ⟨rfl,hi.byValue⟩
 ·rintro v rest r s' ⟨rfl,hall⟩
  obtain ⟨c,ec⟩:=yC 7 (hall v CC);rw [ec];refine BE (BG ?_);cases c
  ·exact BG (BG (h _))
  ·exact BG ⟨rfl,fun u hu'=>hall u (CD _ hu')⟩
 ·rintro ⟨r1,r2⟩ s' ⟨rfl,_⟩
  cases r1 <;> exact BG (h _)
end
end ST
end L2

namespace L2
open PySem
namespace ST
section
variable {prog:Program}{w:World}{K:Type} [DecidableEq K] {knd:KeyKind prog w K}{A:Around}{E:Value->Shared->Prop}{s:Shared}
def Key (knd:KeyKind prog w K) (h:Heap) (ks:List K) (z:Nat × (Int × Value)):Prop:=∃ b,z.2=(tupleKeyHash knd ks,.ref b)/\IsTupleKey knd h ks b
theorem yF {x:Addr}{ks:List K} (hx:IsTupleKey knd s.heap ks x):∀ (l:List Value),(∀ y∈l,∃ b ks',y=.ref b/\IsTupleKey knd s.heap ks' b)->∀ {Q:Bool->Shared->Prop},Q false s->wpAny (model prog w) A (searchCouldBeSeen (.ref x) l) Q E s:=by
 intro l hl Q h;unfold searchCouldBeSeen;refine BE ?_;refine wpAny_forIn_list _ (fun rest r s'=>r.1=none/\s'=s/\∀ y∈rest,∃ b ks',y=.ref b/\IsTupleKey knd s.heap ks' b) _ ?_ ?_ _ _ ⟨rfl,rfl,hl⟩
 ·rintro v rest r s' ⟨hr,rfl,hall⟩
  obtain ⟨b,ks',rfl,hb⟩:=hall v CC;have tl:∀ y∈rest,∃ b ks',y=.ref b/\IsTupleKey knd s'.heap ks' b:=fun y hy=>hall y (CD _ hy)
  dsimp only
  split
  ·exact BG ⟨rfl,rfl,tl⟩
  ·refine BE (wpAny_eqIsQuiet_tuple hx ?_)
   simp only [Bool.not_true,Ct,Cc];refine BE (wpAny_eqIsQuiet_tuple hb ?_);simp only [Bool.not_true,Ct,Cc];refine BE (oP hx ?_);simp only [Ct,Cc];refine BE (oP hb ?_);simp only [Ct,Cc];exact BG ⟨rfl,rfl,tl⟩
 ·rintro ⟨r1,r2⟩ s' ⟨hr,rfl,_⟩
  simp only at hr;subst hr;exact BG h
theorem yG (b:Addr):isSame (.ref b) (.ref b)=pure true:=by
 unfold isSame
 dsimp only
 rw [if_pos (by simp)]
theorem search {a x:Addr}{o:Obj}{es:Array (Int × Value)}{ep:Nat}{t:SetTable}{Z:Zs}{ks:List K}{N:Nat} (hu:A.units < cLine) (ho:s.heap.get? a=some o) (hd:o.data=.set es ep t) (T:TI t es Z)
  (el:∀ z∈Z,∃ ks',Key knd s.heap ks' z) (hx:IsTupleKey knd s.heap ks x) (nN:J t.mask (tupleKeyHash knd ks) N ∉ pls Z) (tN:∀ l,l < N->J t.mask (tupleKeyHash knd ks) l∈pls Z) (lN:N < 10 * SetTable.turns t.mask) {Q:SetFound->Shared->Prop} :
  ∀ (fuel n:Nat) (stand:Option SetTable.Probe),N - n < fuel->n<=N->stand.getD (t.probeStart (tupleKeyHash knd ks))=stp t.mask (tupleKeyHash knd ks) n ->
   ((∃ z∈Z,Key knd s.heap ks z)->Q (.there none) s)->((¬ ∃ z∈Z,Key knd s.heap ks z/\∃ m,n<=m/\m < N/\z.1=J t.mask (tupleKeyHash knd ks) m)->Q (.free (J t.mask (tupleKeyHash knd ks) N) false) s) ->
   wpAny (model prog w) A (setSearchFrom a (.ref x) (tupleKeyHash knd ks) true fuel stand) Q E s:=by
 intro fuel
 induction fuel with
 | zero=>intro n st a b; omega
 | succ fuel ih =>
  intro n stand hf hn hst qh qm;have st:∀ {R:(Array (Int × Value) × Nat × SetTable)->Shared->Prop},R (es,ep,t) s->wpAny (model prog w) A (setState a) R E s:=fun hr=>wpAny_setState_of ho hd (T.tb.fits T.le) hr
  unfold setSearchFrom;refine BE (st ?_)
  dsimp only
  rw [T.gave];simp only [Ct,Cc];rw [hst];generalize hp:SetTable.probe _ _ _ _=met;rcases yq T.tb nN tN (10 * SetTable.turns t.mask) n hn (by omega) with ⟨m,i,z,l1,l2,ez,e1,e2,e3,e4⟩ | ⟨e3,e4⟩
  ·have em:met=some (.candidate (J t.mask (tupleKeyHash knd ks) m) i (stp t.mask (tupleKeyHash knd ks) (m + 1))):=hp.symm.trans e3
   subst em
   dsimp only
   have mz:=BO ez;obtain ⟨ks',b,ezb,hb⟩:=el z mz;have ev:es[i]?=some z.2:=T.tb.val ez;have main:wpAny (model prog w) A (do
     let some (_,y):=es[i]? | unsupported "internal:set-entry"
     let equal <- holding [y] (eqBool y (.ref x))
     let (es',_,t') <- setState a
     if true && equal then return SetFound.there none
     let some same:=t'.sameMemory t.moves t.mask | unsupported "set.changed-during-lookup:is-the-new-block-at-the-old-address"
     let still <- match (if same then t'.slot (J t.mask (tupleKeyHash knd ks) m) else .empty) with
      | .live i'=>match es'[i']? with
       | some (_,y')=>do pure (if <- isSame y' y then some i' else none)
       | none=>pure none
      | _=>pure none
     match still with
     | none=>rule "set.search.anew"; setSearchFrom a (.ref x) (tupleKeyHash knd ks) true fuel none
     | some i'=>if equal then return .there (some i') else setSearchFrom a (.ref x) (tupleKeyHash knd ks) true fuel (some (stp t.mask (tupleKeyHash knd ks) (m + 1)))) Q E s:=by
    rw [ev,ezb]
    dsimp only
    refine BE (Cz (wpAny_eqBool_tuple hu hb hx ?_));refine BE (st ?_)
    dsimp only
    by_cases ek:ks'=ks
    ·rw [Co ek]
     simp only [Bool.and_self,if_true];subst ek;exact BG (qh ⟨z,mz,b,ezb,hb⟩)
    ·rw [Cv ek]
     simp only [Bool.and_false,Ct,Cc];have esm:t.sameMemory t.moves t.mask=some true:=by unfold SetTable.sameMemory; simp
     rw [esm]
     dsimp only
     have hpl:(pls Z)[i]?=some (J t.mask (tupleKeyHash knd ks) m):=by rw [BN,ez,<- e1]; rfl
     rw [if_pos rfl,T.tb.live hpl]
     dsimp only
     rw [ev,ezb]
     dsimp only
     rw [yG];refine BE (BE (BG (BG ?_)))
     (try dsimp only)
     rw [if_pos rfl];refine ih (m + 1) _ (by omega) (by omega) rfl qh fun nex=>qm fun ⟨z',mz',kz',m',x1,x2,x3⟩=>?_
     by_cases c:m + 1<=m'
     ·exact nex ⟨z',mz',kz',m',c,x2,x3⟩
     ·obtain ⟨i',ei'⟩:=Dg mz'
      obtain ⟨b',eb',hb'⟩:=kz'
      by_cases d:m'=m
      ·subst d
       have h1:(pls Z)[i']?=some (J t.mask (tupleKeyHash knd ks) m'):=by rw [BN,ei',<- x3]; rfl
       have b1:=fE T.tb.up h1;have b2:=fE T.tb.up hpl;have:i'=i:=by rw [<- b1,<- b2]
       subst this;rw [ei'] at ez;cases Ca ez;rw [eb'] at ezb;injection ezb with _ q2
       injection q2 with q3
       subst q3;exact ek (hb.inj hb')
      ·exact e4 m' i' z' x1 (by omega) ei' x3 (by rw [eb'])
   split
   ·refine BE (yF hx _ (fun y hy=>?_) ?_)
    ·obtain ⟨e,he,rfl⟩:=BQ.mp hy
     have he2:e∈es.toList:=by
      have:=Array.mem_toList_iff.mp he;rw [Array.mem_filter] at this;exact Array.mem_toList_iff.mpr this.1
     rw [T.tb.es] at he2;obtain ⟨z',mz',rfl⟩:=BQ.mp he2;obtain ⟨ks2,b2,eb2,hb2⟩:=el z' mz';exact ⟨b2,ks2,by rw [eb2],hb2⟩
    ·simp only [Ct,Cc]
     exact main
   ·exact main
  ·have em:met=some (.empty (J t.mask (tupleKeyHash knd ks) N) none):=hp.symm.trans e3
   subst em
   dsimp only
   refine BG (qm fun ⟨z',mz',kz',m',x1,x2,x3⟩=>?_)
   obtain ⟨i',ei'⟩:=Dg mz';obtain ⟨b',eb',hb'⟩:=kz';exact e4 m' i' z' x1 x2 ei' x3 (by rw [eb'])
end
end ST
end L2

namespace L2
open PySem
namespace ST
variable{h0 h:Heap}{a:Addr}
section
variable {prog:Program}{w:World}{K:Type} [DecidableEq K] {knd:KeyKind prog w K}{A:Around}{E:Value->Shared->Prop}{s:Shared}
theorem yH {α:Type}{M:Model}{c:Prop} [Decidable c] {p q:Sem α}{Q:α->Shared->Prop} (hc:¬ c) (h:wpAny M A q Q E s):wpAny M A (if c then p else q) Q E s:=by rw [if_neg hc]; exact h
def SetT (knd:KeyKind prog w K) (h0 h:Heap) (a:Addr) (D:List (List K)):Prop :=
 ∃ o es ep t Z,h.get? a=some o/\o.ExactSet/\o.data=.set es ep t/\TI t es Z/\(∀ z∈Z,∃ ks∈D,Key knd h0 ks z)/\(∀ ks∈D,∃ z∈Z,Key knd h0 ks z)/\Z.length=D.length
theorem SetT.fresh{led:Bool} (e:h.get? a=some { cls:=.type "set",dict:=none,data:=.set #[] 0 (.fresh 0 0 led) }):SetT knd h0 h a [] :=
 ⟨_,#[],0,_,[],e,⟨rfl,rfl,rfl⟩,rfl,TI.fresh 0 0 led,fun z m=>by simp at m,fun z m=>by simp at m,rfl⟩
theorem SetT.same {h h':Heap}{D:List (List K)} (S:SetT knd h0 h a D) (k:∀ o,h.get? a=some o->h'.get? a=some o):SetT knd h0 h' a D:=by
 obtain ⟨o,es,ep,t,Z,ho,r⟩:=S;exact ⟨o,es,ep,t,Z,k _ ho,r⟩
theorem Key.keep {h0:Heap} (kp:∀ b o,h0.get? b=some o->h.get? b=some o) {ks:List K}{z:Nat × (Int × Value)} (k:Key knd h0 ks z):Key knd h ks z:=by
 obtain ⟨b,e,o',items,n,ho',r⟩:=k;exact ⟨b,e,o',items,n,kp _ _ ho',r⟩
theorem oQ{o:Obj}{es ep t} (es':Array (Int × Value)) (t':SetTable) (ho:h.get? a=some o) (hd:o.data=.set es ep t):(h.update a (Obj.putSet es' t')).get? a=some { o with data:=.set es' (ep + 1) t' }:=by
 have:=Heap.get?_update_self (Obj.putSet es' t') ho (by rw [putSet_of es' t' hd]; rfl)
 rw [putSet_of es' t' hd] at this;exact this
theorem add{x:Addr}{D:List (List K)}{ks:List K} (hu:A.units < cLine) (kp:∀ b o,h0.get? b=some o->s.heap.get? b=some o) (S:SetT knd h0 s.heap a D) (hx0:IsTupleKey knd h0 ks x) (room:D.length < 306) {Q:Bool->Shared->Prop}
  (h:∀ (h':Heap) (b:Bool),Heap.SameBut a s.heap h'->SetT knd h0 h' a (dd1 D ks)->Q b { s with heap:=h',toks:=s.toks + (ks.length + 1) }):wpAny (model prog w) A (setAdd a (.ref x)) Q E s:=by
 obtain ⟨o,es,ep,t,Z,ho,hex,hd,T,el,all,ln⟩:=S;have hx:IsTupleKey knd s.heap ks x:=by
  obtain ⟨o',items,n,ho',r⟩:=hx0;exact ⟨o',items,n,kp _ _ ho',r⟩
 obtain ⟨N,lN,nN,tN⟩:=T.free (tupleKeyHash knd ks);unfold setAdd;refine Cz (BE (wpAny_pyHash_tuple hu hx ?_));unfold setAddHashed;refine Cz ?_;have st:∀ {R:(Array (Int × Value) × Nat × SetTable)->Shared->Prop},R (es,ep,t) { s with toks:=s.toks + (ks.length + 1) }->wpAny (model prog w) A (setState a) R E { s with toks:=s.toks + (ks.length + 1) }:=fun hr=>wpAny_setState_of ho hd (T.tb.fits T.le) hr
 unfold setAddHashedIn;refine BE (st ?_)
 dsimp only
 have eb:byScan (.ref x) es=false:=by unfold byScan; rfl
 rw [eb];simp only [Ct,Cc];refine BE ?_;unfold setSearch;refine search (s:={ s with toks:=s.toks + (ks.length + 1) }) hu ho hd T (fun z m=>let ⟨k,_,h⟩:=el z m; ⟨k,h.keep kp⟩) hx nN tN lN 100000 0 none (by have h1:=lN; unfold SetTable.turns at h1; rcases T.sz with e | e | e | e <;> rw [e] at h1 <;> omega) (Ck _) rfl ?_ ?_
 ·rintro ⟨z,mz,kz⟩
  dsimp only
  obtain ⟨k2,m2,kz2⟩:=el z mz;have ek:k2=ks:=by
   obtain ⟨b,e1,h1⟩:=kz;obtain ⟨b2,e2,h2⟩:=kz2.keep kp;rw [e1] at e2;injection e2 with _ q
   injection q with q
   subst q;exact h2.inj h1
  rw [ek] at m2;have:=h s.heap false (Heap.SameBut.refl a s.heap) (by rw [yz m2]; exact ⟨o,es,ep,t,Z,ho,hex,hd,T,el,all,ln⟩)
  exact BG this
 ·intro nex
  dsimp only
  have nD:ks ∉ D:=fun m=>by
   obtain ⟨z,mz,kz⟩:=all ks m;obtain ⟨m1,e1,r1⟩:=T.re z mz;obtain ⟨b,eb,hb⟩:=kz.keep kp;have eh:z.2.1=tupleKeyHash knd ks:=by rw [eb]
   rw [eh] at e1 r1;refine nex ⟨z,mz,⟨b,eb,hb⟩,m1,Ck _,?_,e1.symm⟩
   by_cases c:m1 < N
   ·exact c
   ·by_cases d:m1=N
    ·subst d
     exact absurd (BQ.mpr ⟨z,mz,e1.symm⟩) nN
    ·exact absurd (r1 N (by omega)) nN
  rw [yA nD] at h;refine BE (st ?_)
  dsimp only
  have fin:∀ bv:Bool,wpAny (model prog w) A (do
    storeSet a (SetTable.insertAt es (t.put (J t.mask (tupleKeyHash knd ks) N)).2 (tupleKeyHash knd ks,.ref x)) (if bv=true then (t.put (J t.mask (tupleKeyHash knd ks) N)).1 else { (t.put (J t.mask (tupleKeyHash knd ks) N)).1 with plain:=false })
    if (!false && (if bv=true then (t.put (J t.mask (tupleKeyHash knd ks) N)).1 else { (t.put (J t.mask (tupleKeyHash knd ks) N)).1 with plain:=false }).tooFull)=true then do
     setRelay a (SetTable.grown (es.size + 1))
     return true
    else return true) Q E { s with toks:=s.toks + (ks.length + 1) }:=by
   intro bv;obtain ⟨t1,et1⟩:∃ t1,t1=(if bv=true then (t.put (J t.mask (tupleKeyHash knd ks) N)).1 else { (t.put (J t.mask (tupleKeyHash knd ks) N)).1 with plain:=false }):=⟨_,rfl⟩
   rw [<- et1];obtain ⟨b1,re1⟩:=T.put (h:=tupleKeyHash knd ks) (x:=.ref x) nN tN t1 (by rw [et1]; split <;> rfl) (by rw [et1]; split <;> rfl) (by rw [et1]; split <;> rfl)
   have em1:t1.mask=t.mask:=by rw [et1]; split <;> rfl
   have ln1:=yp Z (J t.mask (tupleKeyHash knd ks) N,(tupleKeyHash knd ks,.ref x));generalize eZ1:ins Z (J t.mask (tupleKeyHash knd ks) N,(tupleKeyHash knd ks,.ref x))=Z1 at b1 re1 ln1;generalize SetTable.insertAt es (t.put (J t.mask (tupleKeyHash knd ks) N)).2 (tupleKeyHash knd ks,.ref x)=es1 at b1;have sz1:es1.size=Z.length + 1:=by rw [b1.size,ln1]
   have szl:es1.size<=sizeLine:=by rw [sz1,ln,BR]; omega
   refine BE (wpAny_storeSet_of ho hd ?_ szl);have g1:=oQ es1 t1 ho hd;have sb1:=Heap.SameBut.update s.heap a (Obj.putSet es1 t1);have kn:(∀ z∈Z1,∃ k∈D++[ks],Key knd h0 k z)/\(∀ k∈D++[ks],∃ z∈Z1,Key knd h0 k z):=by
    rw [<- eZ1];refine ⟨fun z mz=>?_,fun k mk=>?_⟩
    ·rcases eZ.mp mz with rfl | mz
     ·exact ⟨ks,by simp,x,rfl,hx0⟩
     ·obtain ⟨k,mk,kz⟩:=el z mz
      exact ⟨k,Du _ mk,kz⟩
    ·rcases BP.mp mk with mk | mk
     ·obtain ⟨z,mz,kz⟩:=all k mk
      exact ⟨z,eZ.mpr (.inr mz),kz⟩
     ·rw [B6.mp mk]
      exact ⟨_,eZ.mpr (.inl rfl),x,rfl,hx0⟩
   have lD:Z1.length=(D++[ks]).length:=by rw [ln1,ln,BU]; rfl
   by_cases tf:t1.tooFull=true
   ·rw [if_pos (by rw [tf]; rfl)]
    refine BE ?_;obtain ⟨sl,t2,order,Z2,er,es2,T2,l2,m2⟩:=T.relay em1 b1 ln1 (by rw [ln1,ln]; omega) tf
    have f1:t1.fits es1.size=true:=b1.fits (by rw [ln1,em1]; have:=T.room; have m7:7<=t.mask:=(by rcases T.sz with e | e | e | e <;> omega); omega)
    unfold setRelay;refine BE (wpAny_setState_of (s:={ s with heap:=s.heap.update a (Obj.putSet es1 t1),toks:=s.toks + (ks.length + 1) }) g1 rfl f1 ?_)
    dsimp only
    rw [show es.size + 1=Z1.length by rw [ln1,T.tb.size]]
    rw [if_neg (by omega)]
    refine BE ?_;rw [er];refine yH (c:=((order.filterMap (es1[·]?)).size != es1.size)=true) (by rw [es2]; simp) (BG ?_)
    dsimp only
    refine wpAny_storeSet_of (s:={ s with heap:=s.heap.update a (Obj.putSet es1 t1),toks:=s.toks + (ks.length + 1) }) g1 rfl ?_ (by rw [es2]; exact szl)
    have g2:=oQ (order.filterMap (es1[·]?)) t2 g1 rfl;have sb2:=sb1.trans (Heap.SameBut.update (s.heap.update a (Obj.putSet es1 t1)) a (Obj.putSet (order.filterMap (es1[·]?)) t2));obtain ⟨k1,k2⟩:=kn;refine BG (h _ _ sb2 ⟨_,_,_,t2,Z2,g2,hex,rfl,T2,fun z mz=>?_,fun k mk=>?_,by rw [l2,lD]⟩)
    ·obtain ⟨z',mz',e'⟩:=(m2 z.2).mp ⟨z,mz,rfl⟩
     obtain ⟨k,mk,b,eb,hb⟩:=k1 z' mz';exact ⟨k,mk,b,by rw [<- e',eb],hb⟩
    ·obtain ⟨z,mz,b,eb,hb⟩:=k2 k mk
     obtain ⟨z',mz',e'⟩:=(m2 z.2).mpr ⟨z,mz,rfl⟩;exact ⟨z',mz',b,by rw [e',eb],hb⟩
   ·have tf:t1.tooFull=false:=by simpa using tf
    rw [if_neg (by rw [tf]; simp)]
    obtain ⟨k1,k2⟩:=kn;exact BG (h _ _ sb1 ⟨_,_,_,t1,Z1,g1,hex,rfl,T.stay em1 b1 re1 tf,k1,k2,lD⟩)
  split
  ·exact BE (yE hx fun b=>fin b)
  ·exact BE (BG (fin true))
end
end ST
end L2

namespace L2
open PySem PySem.Spec PyProof.Rows
namespace ST
section
variable {prog:Program}{w:World}{K:Type} [DecidableEq K] {knd:KeyKind prog w K}{A:Around}{R:Result->Shared->Prop}{I:Addr}{fp wr:List Addr}{G:Array GenState->Array GenState->Prop}{n:Nat}{P:Nat->Value->Prop}{St:Nat->Shared->Prop}
theorem loop (W:WalksS prog w A.in1 I fp wr G n P St) (S:Addr) (hSf:S ∉ fp) (hu:A.units + 1 < cLine) (h0:Heap) (hw:∀ b∈S :: wr,h0.get? b=none) (kss:List (List K)) (hn:n=kss.length) (hl:n<=305)
  (hv:∀ i v,P i v->∃ b ks,v=.ref b/\kss[i]?=some ks/\IsTupleKey knd h0 ks b) :
  ∀ (k i:Nat) (s:Shared),n - i=k->i<=n->St i s->(∀ b o,h0.get? b=some o->s.heap.get? b=some o)->SetT knd h0 s.heap S (ddup (kss.take i)) ->
   (∀ s',Moved (S :: wr) G s s'->SetT knd h0 s'.heap S (ddup kss)->R (.ok (.ret .none)) s') ->
   codeAny (model prog w) A (.builtin "set.update.loop" ⟨[.ref S,.ref I],[]⟩) R s:=by
 have hSw:S ∉ wr:=fun h=>hSf (W.sub _ h)
 have hsub:∀ b∈wr,b∈S :: wr:=fun b hb=>CD _ hb
 intro k
 induction k with
 | zero =>
  intro i s hk hi hst hkp hS hR;have hin:i=kss.length:=by omega
  refine C0 F.entry_set_update_loop ?_;rw [Dl F.plain_set_update_loop _];show wpAny _ A.in1 (pyNext (.ref I) >>= _) _ _ s;have hst:St n s:=by
   have e:i=n:=by omega
   rw [<- e]; exact hst
  refine BE (W.done s _ _ hst fun s' hm=>?_)
  show wpAny _ A.in1 (ret Value.none) _ _ s';rw [hin,B2] at hS;exact BG (hR s' (hm.mono hsub) (hS.same fun o e=>hm.heap S o hSw e))
 | succ k ih =>
  intro i s hk hi hst hkp hS hR;have hlt:i < n:=by omega
  refine C0 F.entry_set_update_loop ?_;rw [Dl F.plain_set_update_loop _];show wpAny _ A.in1 (pyNext (.ref I) >>= _) _ _ s;refine BE (W.item i s _ _ hlt hst fun v s' hP hst' hm=>?_)
  obtain ⟨b,ks,rfl,ek,hb⟩:=hv i v hP;have hkp':∀ b o,h0.get? b=some o->s'.heap.get? b=some o:=fun b o e=>hm.heap b o (fun z=>by have:=hw b (hsub b z); rw [e] at this; cases this) (hkp b o e)
  have hS':SetT knd h0 s'.heap S (ddup (kss.take i)):=hS.same fun o e=>hm.heap S o hSw e
  show wpAny _ A.in1 (holding [Value.ref b] (setAdd S (.ref b)) >>= _) _ _ s';refine BE (Cz ?_);have ll:(ddup (kss.take i)).length < 306:=by have:=ddup_le (kss.take i); rw [B8] at this; omega
  refine add (A:=A.in1) hu hkp' hS' hb ll fun h' bb hsb hS2=>?_
  have hS2:SetT knd h0 h' S (ddup (kss.take (i + 1))):=by rw [yy ek]; exact hS2
  have hk2:∀ b o,h0.get? b=some o->h'.get? b=some o:=fun b o e=>(hsb.2 b (fun z=>by have:=hw b (by rw [z]; exact CC); rw [e] at this; cases this)).trans (hkp' b o e)
  refine BG ⟨plainId_quiet F.plain_set_update_loop _,ih (i + 1) _ (by omega) hlt (W.frame _ s' _ _ hst' (by show s'.toks<=s'.toks + _; omega) fun b hb o e=>?_) hk2 hS2 fun s'' hm'' hS''=>?_⟩
  ·rw [hsb.2 b (fun h:b=S=>hSf (by rw [<- h]; exact hb))]; exact e
  ·refine hR s'' (Moved.trans W.gtrans ((hm.mono hsub).then_heap (by show s'.toks<=s'.toks + _; omega) fun b o hb e=>?_) hm'') hS''
   rw [hsb.2 b (fun h:b=S=>hb (by rw [h]; exact CC))]; exact e
end
end ST
end L2

namespace PySem
namespace F
theorem st_call1 (v:Value):checkTypeCall "set" ⟨[v],[]⟩=pure ():=by kernel_rfl
theorem st_subl:isSubtype (.type "list") (.type "set")=pure false:=by rw [isSubtype_type]; kernel_rfl
theorem st_sublf:isSubtype (.type "list") (.type "frozenset")=pure false:=by rw [isSubtype_type]; kernel_rfl
end F
end PySem
namespace L2
open PySem PySem.Spec PyProof.Rows
namespace ST
section
variable {prog:Program}{w:World}{K:Type} [DecidableEq K] {knd:KeyKind prog w K}{A:Around}{E:Value->Shared->Prop}{s:Shared}
abbrev setO (led:Bool):Obj:={ cls:=.type "set",dict:=none,data:=.set #[] 0 (.fresh 0 0 led) }
set_option maxHeartbeats 3200000 in
theorem call_set {l:Addr}{items:Array Value}{kss:List (List K)}{Q:Value->Shared->Prop} (hu:A.units + 8 < cLine) (hh:A.handled=none) (hl:s.heap.IsList l items) (hn:items.size=kss.length) (h305:kss.length<=305)
  (hv:∀ (i:Nat) (v:Value),items[i]?=some v->∃ b ks,v=Value.ref b/\kss[i]?=some ks/\IsTupleKey knd s.heap ks b)
  (h:∀ (h':Heap) (tk:Nat),SetT knd s.heap h' s.heap.objs.size (ddup kss)->(∀ b o,s.heap.get? b=some o->h'.get? b=some o)->Q (.ref s.heap.objs.size) { s with heap:=h',toks:=tk }) :
  wpAny (model prog w) A (call (.type "set") [.ref l]) Q E s:=by
 obtain ⟨cc,tt,em⟩:=F.called_set.mro;have c1:=F.called_set.made;have c2:=F.called_set.sub;refine wpAny_call (codeAny_of_tree ?_);show wpAny _ _ (callAny (.type "set") _) _ _ _;refine BG ⟨Code.quiet_builtin _ ∅,C0 F.entry_type_call ?_⟩
 rw [Around.under_plain (weight_type_call_type "set" [.ref l] []) rfl];have c3:=F.called_set.notType;have c4:=F.called_set.canCreate;have c5:=F.st_call1 (.ref l)
 repeat (any_goals (first | assumption | wp_step))
 refine codeAny_mono (code_set_new_1 (.ref l) (E:=E) (Q₁:=fun v t=>∃ led:Bool,v=.ref s.heap.objs.size/\t={ s with heap:=s.heap.push (setO led) }) fun led=>⟨led,rfl,rfl⟩) fun r t hr=>?_
 cases r with
 | error e=>exact hr
 | ok fl =>
  cases fl with
  | ret v =>
   obtain ⟨led,rfl,rfl⟩:=hr;have g0:(s.heap.push (setO led)).get? s.heap.objs.size=some (setO led):=B3 _ rfl;have gT:Shared.TypeIs { s with heap:=s.heap.push (setO led) } (.ref s.heap.objs.size) "set" := ⟨_,g0,rfl⟩
   have d1:=F.called_set.init.lookup;have d2:=F.called_set.init.bind (.ref s.heap.objs.size)
   repeat (any_goals (first | assumption | wp_step))
   refine codeAny_mono (codeAny_call_builtin (R:=wants (fun r t2=>r=.none/\∃ h' tk,t2={ s with heap:=h',toks:=tk }/\SetT knd s.heap h' s.heap.objs.size (ddup kss)/\(∀ b o,s.heap.get? b=some o->h'.get? b=some o)) E) F.called_set.init.plain F.entry_set_init (check_set_init_1 gT ?_)) fun r2 t2 hr2=>?_
   ·obtain ⟨ol,hol,hcl,nl,hdl⟩:=hl
    obtain ⟨ocl,odi,oda,osl⟩:=ol;simp only at hcl hdl;subst hcl; subst hdl;have hol2:(s.heap.push (setO led)).get? l=some { cls:=.type "list",dict:=odi,data:=.seq items nl,slots:=osl }:=BK _ hol;have e1:=F.st_subl;have e2:=F.st_sublf;have e3:(Value.type "list" == Value.type "dict")=false:=by decide
    have hl1:(s.heap.push (setO led)).IsList l items:=⟨_,hol2,rfl,nl,rfl⟩;unfold Builtin.«set.__init__» noKeywords Builtin.Frozenset.updateFrom;generalize hPI:pyIter=PI
    wp_walk
    subst hPI;refine CL hl1 ?_;refine BE (wpAny_runValue ?_);have lS:l < s.heap.objs.size:=BM hol;have hh3:A.in1.in1.in1.handled=none:=by simp [hh]
    have nI:l≠(s.heap.push (setO led)).objs.size:=by rw [CF]; exact BS (Nat.lt_succ_of_lt lS)
    have nS:s.heap.objs.size ∉ [(s.heap.push (setO led)).objs.size,l]:=by
     rw [CF];simp only [BV,B6,Cp,Cq,not_or];exact ⟨BS (Nat.lt_succ_self _),CJ lS⟩
    have kp:∀ b o,s.heap.get? b=some o->((s.heap.push (setO led)).push { cls:=.type "list_iterator",data:=.fields #[.ref l,.int 0 0] }).get? b=some o:=fun b o e=>BK _ (BK _ e)
    have fr:∀ n,s.heap.objs.size<=n->s.heap.get? n=none:=fun n hn=>by
     cases e:s.heap.get? n with
     | none=>rfl
     | some o=>exact absurd (BM e) (Nat.not_lt.mpr hn)
    have hw:∀ b∈s.heap.objs.size :: [(s.heap.push (setO led)).objs.size],s.heap.get? b=none:=fun b hb=>by
     rcases BV.mp hb with e | hb
     ·rw [e]; exact fr _ (BI _)
     ·rw [B6.mp hb,CF]; exact fr _ (Nat.le_succ _)
    refine loop (knd:=knd) (h0:=s.heap) (kss:=kss) ((Walks.list hh3 _ l nI items).toS) s.heap.objs.size nS (by show A.units + 1 + 1 + 1 < cLine; omega) hw hn (by omega) hv (items.size - 0) 0 _ (by omega) (Ck _) ⟨⟨_,B3 _ rfl,rfl,rfl⟩,(hl1.push _)⟩ kp ?_ ?_
    ·exact SetT.fresh (led:=led) (BK _ g0)
    ·intro t3 hm hS
     obtain ⟨h',g',d',tk',os'⟩:=t3;have eg:g'=s.gens:=hm.gens;have ed:d'=s.drawn:=hm.drawn;have eo:os'=s.os:=hm.os;subst eg; subst ed; subst eo;show wpAny _ _ _ _ _ _;refine BG ?_;show wpAny _ _ (ret Value.none) _ _ _;refine BG ⟨rfl,h',tk',rfl,hS,fun b o e=>?_⟩
     exact hm.heap b o (fun z=>by have:=hw b z; rw [e] at this; cases this) (kp b o e)
   ·cases r2 with
    | error e=>exact hr2
    | ok fl2 =>
     cases fl2 with
     | ret r =>
      obtain ⟨rfl,h',tk,rfl,hS,hk⟩:=hr2
      repeat (any_goals (first | assumption | wp_step))
      exact h _ _ hS hk
     | _=>exact hr2.elim
  | _=>exact hr.elim
end
end ST
end L2

namespace L2
open PySem PySem.Spec PyProof.Rows
structure Tups (H:Hp) (rs:List Addr) (kss:List (List Key)):Prop where
 len:rs.length=kss.length
 at_:∀ (i:Nat) (r:Addr),rs[i]?=some r->∃ ks,kss[i]?=some ks/\H r=some (.tup (ks.map kV))
def tLS (K:PySem.W.Frag) (ta:TA):TE:=fun σ H Q=>ta σ H fun vs H1=>∃ (a:Addr) (rs:List Addr) (kss:List (List Key)),vs=[.ref a]/\SqL K H1 a (rs.map V.ref)/\Tups H1 rs kss/\kss.length<=305/\Q (.int ((ST.ddup kss).length:Int)) H1
section
variable {X:Cx}
theorem yI {a:Expr}{ta:TA}{p1 p2 p3 p4:Pos} (hc:X.calm=true) (hu:X.A.units + 64 < cLine) (hgl:Gl X "len") (hml:X.mg "len" = none) (hgs:Gl X "set") (hms:X.mg "set" = none) (ha:Pr (PA X [a] ta))
  (hs:starEach [a] X.env=[(false,eval a X.env)]:=by rfl) (hsz:starEach [.Call (.Name "set" p2) [a] [] p3] X.env=[(false,eval (.Call (.Name "set" p2) [a] [] p3) X.env)]:=by rfl) :
  Pr (PE X (.Call (.Name "len" p1) [.Call (.Name "set" p2) [a] [] p3] [] p4) (tLS X.K ta)):=by
 refine ⟨?_⟩;intro pins s σ H Q I h;refine Call_ (dz I hgl hml BY (PyProof.Rows.callWith_builtin1 ?_ hsz rfl));rw [hsz];refine Calls.spliced_cons ?_;refine Call_ (dz I hgs hms PyProof.Rows.boot_set (DA (thn (ha.h p3 pins s σ H _ I h) fun us s1 ⟨vs,H1,I1,r1,q1⟩=>?_) hs rfl))
 obtain ⟨a',rs,kss,e,qx,tp,l5,q⟩:=q1;subst e;obtain ⟨u,rfl,ru⟩:=vals1 r1;cases ru;obtain ⟨its,rv,p,hz⟩:=I1.list qx;have ei:=ji rv;subst ei;have hh:X.A.handled=none:=I.ok.hd hc;refine ST.call_set (knd:=mixKind X.prog X.w) (kss:=kss) (by omega) hh p.isList (by simp [tp.len]) l5 (fun i v e=>?_) fun h' tk hS kp=>Calls.spliced_nil ?_
 ·rw [DC,BN] at e
  obtain ⟨r,er,e⟩:=B5.mp e;subst e;obtain ⟨ks,ek,hr⟩:=tp.at_ i r er;obtain ⟨_,xs,rx,o,ho,ht,n,hd⟩:=I1.hok r _ hr;exact ⟨r,ks,rfl,ek,o,_,n,ho,ht,hd,iU rx⟩
 ·obtain ⟨o,es,ep,t,Z,ho,hex,hd,T,_,_,ln⟩:=hS
  have es2:es.size=(ST.ddup kss).length:=by rw [T.tb.size,ln]
  have le:=ST.ddup_le kss;refine PySem.call_len_set ho hex hd (T.tb.fits T.le) (by rw [es2]; omega) ?_
  rw [es2];exact ⟨.int _,H1,I1.kept kp,⟨_,rfl⟩,q⟩
end
end L2

namespace B17
open PySem L2 PySem.Spec PyProof.Rows PySem.SeqAt
variable{X:Cx}{pins:List (Addr × Obj)}{σ:L2.St}{H:Hp}{s:Shared}{A:Around}{a:Addr}{ks ys:List V}{zss:List (List V)}{its:List Value}
structure TL (H:Hp) (zss:List (List V)) (ys:List V):Prop where
 len:ys.length=zss.length
 at_:∀ (i:Nat) (zs:List V),zss[i]?=some zs->ScaL zs/\∃ p,ys[i]?=some (.ref p)/\H p=some (.tup zs)
def eqv (H:Hp) (ks:List V):Value->Bool
 | .ref p=>match H p with
  | some (.tup zs)=>decide (zs=ks)
  | _=>false
 | _=>false
theorem yJ {X:Cx}{pins:List (Addr × Obj)}{σ:L2.St}{H:Hp} (I:L2.Inv X pins σ H s) {p:Addr}{zs:List V} (hp:H p=some (.tup zs)) (ha:H a=some (.tup ks)) (hz:ScaL zs) (hk:ScaL ks) (hu:A.units < cLine):EqAt A s (.ref p) (.ref a) (decide (zs=ks)):=by
 by_cases e:p=a
 ·subst e
  rw [hp] at ha;cases ha;rw [Co rfl];exact EqAt.same _
 ·refine EqAt.of_refs e ?_
  obtain ⟨z,its,rv,t1⟩:=I.hok p _ hp;obtain ⟨z2,its2,rv2,t2⟩:=I.hok a _ ha;have key:=RcAt.tuples (A:=A) (s:=s) t1 t2 hu (jc hz hk rv rv2);have e:((List.range (min its.toArray.size its2.toArray.size)).all (fun j=>decide (zs[j]?=ks[j]?)) && its.toArray.size == its2.toArray.size)=decide (zs=ks):=by
   rw [<- jb,BZ,BZ,<- rv.length,<- rv2.length]
  rw [e] at key;exact key
theorem TL.eqv{ys:List V} (h:TL H zss ys) (rv:Vals ys its):its.map (eqv H ks)=zss.map (fun zs=>decide (zs=ks)):=by
 refine List.ext_getElem? fun j=>?_
 rw [BN,BN];cases e:zss[j]? with
 | none =>
  have l1:=List.getElem?_eq_none_iff.mp e;have l2:=h.len;have l3:=rv.length;rw [Dp (by omega)]; rfl
 | some zs =>
  obtain ⟨_,p,h1,h2⟩:=h.at_ j zs e;obtain ⟨w,hw,r⟩:=rv.get h1;cases r;rw [hw];simp [B17.eqv,h2]
theorem TL.eqs (I:L2.Inv X pins σ H s) (h:TL H zss ys) (rv:Vals ys its) (ha:H a=some (.tup ks)) (hk:ScaL ks) (hu:A.units < cLine) :
  ∀ y,y∈its.toArray->EqAt A s y (.ref a) (B17.eqv H ks y):=fun y hy=>by
 obtain ⟨j,hj⟩:=Dg (by simpa using hy:y∈its)
 have hjl:=(BX.mp hj).1;obtain ⟨zs,ez⟩:∃ zs,zss[j]?=some zs:=⟨_,BJ (by have:=h.len; have:=rv.length; omega)⟩
 obtain ⟨sc,p,h1,h2⟩:=h.at_ j zs ez;obtain ⟨w,hw,r⟩:=rv.get h1;cases r;rw [hj] at hw;cases hw;have:B17.eqv H ks (.ref p)=decide (zs=ks):=by simp [B17.eqv,h2]
 rw [this];exact yJ I h2 ha sc hk hu
section
variable {X:Cx}
def rInT:R2:=fun x y H Q=>∃ (a b:Addr) (ks:List V) (zss:List (List V)) (ys:List V),x=.ref a/\y=.ref b/\H a=some (.tup ks)/\ScaL ks/\H b=some (.lst ys)/\TL H zss ys/\Q (.bl (zss.any fun zs=>decide (zs=ks))) H
theorem jq (hu:X.A.units + 64 < cLine):OpR X (compareOp .In) rInT:=by
 intro pins s σ H x y v u Q I rx ry h;obtain ⟨a,b,ks,zss,ys,rfl,rfl,ha,hk,hb,tl,q⟩:=h;cases rx;cases ry;obtain ⟨z,its,n,rv,e⟩:=I.hok b _ hb;have i1:s.heap.IsList b its.toArray:=⟨_,e,rfl,n,rfl⟩;refine in_listAt (B17.eqv H ks) i1 (tl.eqs I rv ha hk (by show X.A.units + 1 < cLine; omega)) ⟨.bl _,H,I,?_,q⟩
 have:its.toArray.any (B17.eqv H ks)=zss.any fun zs=>decide (zs=ks):=by
  have e:=Cs (fun l=>l.any id) (tl.eqv (ks:=ks) rv)
  simpa [List.any_map,Function.comp_def] using e
 rw [this];rfl
end
end B17

namespace L2
open PySem PySem.Spec PyProof.Rows PySem.SeqAt
variable{A:Around}{x:V}
def EqN (H:Hp):Nat->V->V->Prop
 | 0,x,y=>x=y/\Sca x
 | n + 1,x,y=>(x=y/\Sca x)\/∃ u v xs ys,x=.ref u/\y=.ref v/\H u=some (.tup xs)/\H v=some (.tup ys)/\Paired (EqN H n) xs ys
section
variable {X:Cx}{pins:List (Addr × Obj)}{σ:St}{H:Hp}{s:Shared}
theorem oR{x:V}{v u:Value} (h:Sca x) (r1:RelV x v) (r2:RelV x u):EqAt A s v u true:=by
 have:=nU (A:=A) (s:=s) h h r1 r2
 rwa [Co rfl] at this
theorem yK (I:Inv X pins σ H s){xs ys:List V}{u v:Addr} (hu:A.units < cLine) (h1:H u=some (.tup xs)) (h2:H v=some (.tup ys)) (el:xs.length=ys.length)
  (k:∀ j (h1:j < xs.length) (h2:j < ys.length) (a b:Value),RelV xs[j] a->RelV ys[j] b->EqAt A.in1 s a b true):EqAt A s (.ref u) (.ref v) true:=by
 by_cases ne:u=v
 ·rw [ne]; exact EqAt.same _
 ·obtain ⟨_,as,ra,ta⟩:=I.hok _ _ h1
  obtain ⟨_,bs,rb,tb⟩:=I.hok _ _ h2;have m1:=ra.length;have m2:=rb.length;have kk:=RcAt.tuples (A:=A) (s:=s) (e:=fun _=>true) ta tb hu (fun i h1 h2=>by
   have i1:i < as.length:=by simpa using h1
   have i2:i < bs.length:=by simpa using h2
   simp only [List.getElem_toArray];exact k i (by omega) (by omega) _ _ (eX ra i (by omega) i1) (eX rb i (by omega) i2))
  have e:((List.range (min as.toArray.size bs.toArray.size)).all (fun _=>true) && as.toArray.size == bs.toArray.size)=true:=by
   rw [jh];simp only [BZ,Bool.true_and,beq_iff_eq];omega
  rw [e] at kk;exact EqAt.of_refs ne kk
theorem jr (I:Inv X pins σ H s):∀ (n:Nat) {A:Around}{x y:V}{u v:Value},A.units + n < cLine->EqN H n x y->RelV x u->RelV y v->EqAt A s u v true
 | 0,A,x,y,u,v,_,⟨e,c⟩,r1,r2=>by
  subst e; exact oR c r1 r2
 | n + 1,A,x,y,u,v,hu,h,r1,r2=>by
  rcases h with ⟨e,c⟩ | ⟨p,q,xs,ys,rfl,rfl,h1,h2,pr⟩
  ·subst e; exact oR c r1 r2
  ·cases r1
   cases r2;exact yK I (by omega) h1 h2 (BH pr) fun j j1 j2 a b ra rb=>jr I n (by show A.units + 1 + n < cLine; omega) (bN pr j j1 j2) ra rb
def rEqN:R2:=fun x y H Q=>∃ (a b:Addr) (xs ys:List V),x=.ref a/\y=.ref b/\H a=some (.tup xs)/\H b=some (.tup ys)/\Paired (EqN H 4) xs ys/\Q (.bl true) H
def rNeN:R2:=fun x y H Q=>∃ (a b:Addr) (xs ys:List V),x=.ref a/\y=.ref b/\H a=some (.tup xs)/\H b=some (.tup ys)/\Paired (EqN H 4) xs ys/\Q (.bl false) H
theorem oS (hu:X.A.units + 64 < cLine):OpR X (compareOp .Eq) rEqN:=by
 intro pins s σ H x y v u Q I rx ry h;obtain ⟨a,b,xs,ys,rfl,rfl,ha,hb,pr,q⟩:=h;cases rx;cases ry;obtain ⟨z,its,rv,t1⟩:=I.hok a _ ha;obtain ⟨z2,its2,rv2,t2⟩:=I.hok b _ hb;have l1:=rv.length;have l2:=rv2.length;have el:=BH pr;have key:=RcAt.tuples (A:=X.A) (s:=s) (e:=fun _=>true) t1 t2 (by omega) (fun j h1 h2=>by
  have j1:j < its.length:=by simpa using h1
  have j2:j < its2.length:=by simpa using h2
  simp only [List.getElem_toArray];exact jr I 4 (by show X.A.units + 1 + 4 < cLine; omega) (bN pr j (by omega) (by omega)) (eX rv j (by omega) j1) (eX rv2 j (by omega) j2))
 have e:((List.range (min its.toArray.size its2.toArray.size)).all (fun _=>true) && its.toArray.size == its2.toArray.size)=true:=by
  rw [jh];simp only [BZ,Bool.true_and,beq_iff_eq];omega
 rw [e] at key;exact key X.prog X.w X.xe _ ⟨.bl _,H,I,rfl,q⟩
theorem yL (hu:X.A.units + 64 < cLine):OpR X (compareOp .NotEq) rNeN:=by
 intro pins s σ H x y v u Q I rx ry h;obtain ⟨a,b,xs,ys,rfl,rfl,ha,hb,pr,q⟩:=h;cases rx;cases ry;obtain ⟨z,its,rv,t1⟩:=I.hok a _ ha;obtain ⟨z2,its2,rv2,t2⟩:=I.hok b _ hb;have l1:=rv.length;have l2:=rv2.length;have el:=BH pr;have key:=RcNeAt.tuples (A:=X.A) (s:=s) (e:=fun _=>true) t1 t2 (by omega) (fun j h1 h2=>by
  have j1:j < its.length:=by simpa using h1
  have j2:j < its2.length:=by simpa using h2
  simp only [List.getElem_toArray];exact jr I 4 (by show X.A.units + 1 + 4 < cLine; omega) (bN pr j (by omega) (by omega)) (eX rv j (by omega) j1) (eX rv2 j (by omega) j2))
 have e:(!((List.range (min its.toArray.size its2.toArray.size)).all (fun _=>true) && its.toArray.size == its2.toArray.size))=false:=by
  rw [jh];simp only [BZ,Bool.true_and,Bool.not_eq_false',beq_iff_eq];omega
 rw [e] at key;exact key X.prog X.w X.xe _ ⟨.bl _,H,I,rfl,q⟩
end
theorem EqN.sca {H:Hp} (h:Sca x):∀ n,EqN H n x x
 | 0=>⟨rfl,h⟩
 | _ + 1=>.inl ⟨rfl,h⟩
end L2

namespace L2
open PySem PySem.Spec PyProof.Rows
variable{a b c:Expr}{ta:TA}{p pos:Pos}
def ItD (lo:Int) (n:Nat):It:=⟨fun i _=>i < n,fun i H x H'=>H'=H/\x=.int (lo - i),fun i _=>n<=i⟩
theorem yM {a:Int} (h1:-1<=a) (h2:a < 2 ^ 62):Builtin.Range.small a (-1) (-1)=true:=by
 have fl:∀ n:Int,-2<=n->n<=2 ^ 62->Builtin.Range.rangeFitsLong n=true:=fun n a b=>by
  unfold Builtin.Range.rangeFitsLong;simp;omega
 unfold Builtin.Range.small;rw [PySem.W.rangeSize_down,fl a (by omega) (by omega),fl (-1) (by omega) (by omega),if_neg (show ¬ (-1:Int) > 0 by omega),fl (-1 + (-1 + 1)) (by omega) (by omega)]
 have:Builtin.Range.rangeFitsLong (if a > -1 then a - -1 else 0)=true:=by split <;> exact fl _ (by omega) (by omega)
 rw [this];simp
theorem yN {P:Program}{w:World}{K:PySem.W.Frag}{tg:Expr} (it:Addr) (lo:Int) (n:Nat):Turn P w K tg (ItD lo n) [it] it (fun i h=>IsRangeIter h it (lo + (i:Nat) * (-1)) ((n:Int) - (i:Nat)) (-1)) where
 mem:=by simp
 obj:=fun i h st b hb=>by
  have e:b=it:=by simpa using hb
  subst e;exact ⟨_,st,fun v z=>by
   have z':Data.fields _=Data.cell v:=z;cases z'⟩
 keep:=fun i h h' st k=>k it (by simp) _ st
 item:=by
  intro X hP hw hK hc i pins s σ H E I hf st hg;subst hP hw hK;obtain ⟨f0,f1,f2,f3,f4,f5⟩:=hf it (by simp)
  have W:=Walks.range (prog:=X.prog) (w:=X.w) (I.ok.hd hc) it lo (-1) n;refine W.item i s _ _ hg st fun v h' tk hv st' kk=>?_
  obtain ⟨t,rfl⟩:=hv;have I1:Inv X pins σ H { s with heap:=h',toks:=tk }:=I.turned (fun b o hb e=>kk b o (by simpa using hb) e) f0 f1 f3 f4 f5
  refine ⟨_,rfl,fi (s:={ s with heap:=h',toks:=tk }) (n := "range_iterator") st' rfl rfl (by decide) ⟨.int (lo - i),H,I1,⟨t,?_⟩,⟨rfl,rfl⟩,st',fun b hb=>(hf b hb).1⟩⟩
  rw [Int.mul_neg,Int.mul_one,Int.sub_eq_add_neg]
 done:=by
  intro X hP hw hK hc i pins s σ H E I hf st hg;subst hP hw hK;obtain ⟨f0,f1,f2,f3,f4,f5⟩:=hf it (by simp)
  exact wpAny_pyNext_range_end (I.ok.hd hc) st (by have:n<=i:=hg; omega) fun h' eb=>⟨rfl,I.turned (t':=s.toks) (fun b o hb e=>eb b o hb e) f0 f1 f3 f4 f5⟩
 self:=fun _ _ _ _ _ st h=>wpAny_pyIter_rangeiter st h
section
variable {X:Cx}{tg:Expr}
def iRngD (ta:TA):TI:=fun σ H R=>ta σ H fun vs H1=>∃ i:Int,vs=[.int i,.int (-1),.int (-1)]/\(-1<=i/\i < 2 ^ 62)/\R (ItD i (i + 1).toNat) H1
theorem yO{p pos:Pos} (hg:Gl X "range") (hm:X.mg "range" = none) (ha:PA X [a,b,c] ta) (hs:starEach [a,b,c] X.env=[(false,eval a X.env),(false,eval b X.env),(false,eval c X.env)]:=by rfl) (hs2:starEach [b,c] X.env=[(false,eval b X.env),(false,eval c X.env)]:=by rfl) (hs3:starEach [c] X.env=[(false,eval c X.env)]:=by rfl) :
  PI X tg (.Call (.Name "range" p) [a,b,c] [] pos) (iRngD ta):=by
 intro pins s σ H R I h;refine Call_ (dz I hg hm boot_range (DA (thn (ha pos pins s σ H _ I h) fun us s1 ⟨vs,H1,I1,r1,q1⟩=>?_) (by rw [hs,hs2]) (by rw [hs2]; rfl)))
 obtain ⟨i,e,⟨q1,q2⟩,q⟩:=q1;subst e;cases r1 with
 | cons r rr =>
  cases rr with
  | cons r' rr =>
   cases rr with
   | cons r3 rr =>
    cases rr;obtain ⟨t,rfl⟩:=r;obtain ⟨u,rfl⟩:=r';obtain ⟨v,rfl⟩:=r3;refine call_range_3 (by decide) ?_ (.inl ?_)
    ·refine wpAny_pyIter_range (IsRange.new ..) (yM q1 q2) ?_
     have I2:Inv X pins σ H1 { s1 with heap:=s1.heap.push { cls:=.type "range",data:=.fields #[.int i t,.int (-1) u,.int (-1) v] } }:=I1.kept (t':=s1.toks) fun b o e=>BK _ e
     refine ⟨(s1.heap.push { cls:=.type "range",data:=.fields #[.int i t,.int (-1) u,.int (-1) v] }).objs.size,[(s1.heap.push { cls:=.type "range",data:=.fields #[.int i t,.int (-1) u,.int (-1) v] }).objs.size],_,_,H1,rfl,
      I2.kept (t':=s1.toks) fun b o e=>BK _ e,yN _ i (i + 1).toNat,?_,fun b hb=>?_,q⟩
     ·have e1:i + ((0:Nat):Int) * (-1)=i:=by simp
      have e2:(((i + 1).toNat:Nat):Int) - ((0:Nat):Int)=Builtin.Range.rangeSize i (-1) (-1):=by rw [PySem.W.rangeSize_down]; split <;> omega
      show IsRangeIter _ _ (i + ((0:Nat):Int) * (-1)) ((((i + 1).toNat:Nat):Int) - ((0:Nat):Int)) (-1);rw [e1,e2];exact B3 _ rfl
     ·have e:b=(s1.heap.push { cls:=.type "range",data:=.fields #[.int i t,.int (-1) u,.int (-1) v] }).objs.size:=by simpa using hb
      subst e;exact I2.fpOk (BI _) (I2.hok.fresh (BI _))
    ·unfold Builtin.divisionGoesByPylong
     rfl
theorem yP{p pos:Pos} (hg:Gl X "range") (hm:X.mg "range" = none) (ha:Pr (PA X [a,b,c] ta)) (hs:starEach [a,b,c] X.env=[(false,eval a X.env),(false,eval b X.env),(false,eval c X.env)]:=by rfl) (hs2:starEach [b,c] X.env=[(false,eval b X.env),(false,eval c X.env)]:=by rfl) (hs3:starEach [c] X.env=[(false,eval c X.env)]:=by rfl) :
  Pr (PI X tg (.Call (.Name "range" p) [a,b,c] [] pos) (iRngD ta)):=⟨yO hg hm ha.h hs hs2 hs3⟩
end
theorem yQ {lo:Int}{n:Nat}{g:TG}{tb:TS}{D:Ends}{σ:St}{H:Hp} (Pv:Nat->St->Hp->Prop) (h0:Pv 0 σ H)
  (hs:∀ i σ H,i < n->Pv i σ H->g (.int (lo - i)) σ H fun σ2 H2=>tb { D with nx:=Pv (i + 1),ct:=Pv (i + 1),bk:=D.nx } σ2 H2) (hd:∀ σ H,Pv n σ H->D.nx σ H):Loop (ItD lo n) g tb D σ H:=by
 refine ⟨⟨fun i m σ H=>m=n - i/\i<=n/\Pv i σ H,⟨n,by simp,Ck _,h0⟩,?_⟩⟩
 rintro i m σ H ⟨rfl,hi,p⟩
 by_cases hlt:i < n
 ·refine .inr ⟨hlt,Pv (i + 1),fun σ' H' p'=>⟨n - (i + 1),by omega,rfl,hlt,p'⟩,fun x H' y=>?_⟩
  obtain ⟨e,y⟩:=y;subst e y;exact hs i σ _ hlt p
 ·have e:i=n:=by omega
  subst e;exact .inl ⟨BI _,hd σ H p⟩
end L2

namespace B17
open PySem L2 PySem.Spec PyProof.Rows PySem.SeqAt
def rIndexT:V->List V->Hp->VK->Prop:=fun x vs H Q=>∃ (l a:Addr) (ks:List V) (zss:List (List V)) (ys:List V) (j:Nat),x=.ref l/\vs=[.ref a]/\H a=some (.tup ks)/\ScaL ks/\H l=some (.lst ys)/\TL H zss ys/\zss[j]?=some ks/\(∀ i:Nat,i < j->zss[i]?≠some ks)/\zss.length < 1000/\Q (.int (j:Int)) H
theorem yR {X:Cx} (hu:X.A.units + 64 < cLine):MtM X "list.index" rIndexT:=by
 intro pins s σ H x vs v us Q I rx rv h;obtain ⟨l,a,ks,zss,ys,j,rfl,rfl,ha,hk,hH,tl,hj,hlt,hz,q⟩:=h;cases rx;obtain ⟨u,rfl,ru⟩:=rv.one;cases ru;obtain ⟨z,its,n,r,hl,e⟩:=I.lstM hH;have l1:=tl.len;have ev:=tl.eqv (ks:=ks) r;have jl:j < its.length:=by have:=(BX.mp hj).1; omega
 have at_:∀ (i:Nat) (hi:i < its.length) (zs:List V),zss[i]?=some zs->B17.eqv H ks its[i]=decide (zs=ks):=fun i hi zs e=>by
  have:=Cs (fun l=>l[i]?) ev
  simp only [BN,e,BJ hi,Option.map_some] at this;exact Ca this
 refine call_meets PySem.F.slot_list_index ⟨_,e,rfl⟩ PySem.F.entry_list_index (PySem.F.args_list_index_2 _ _) (list_indexAt l its.toArray n _ _ (.ref a) (B17.eqv H ks) j (by simpa using jl) (by omega) (by simp only [List.getElem_toArray]; rw [at_ j jl ks hj]; exact Co rfl) (fun i hi hlt2=>by
  have hi:i < its.length:=by simpa using hi
  have ez:zss[i]?=some zss[i]:=BJ (by omega)
  simp only [List.getElem_toArray];rw [at_ i hi _ ez];exact Cv fun z=>hlt i hlt2 (by rw [ez,z]))) ⟨e,tl.eqs I r ha hk (by show X.A.units + 1 < cLine; omega),?_⟩
 exact ⟨.int _,H,I.tok _,⟨_,rfl⟩,q⟩
end B17

set_option maxHeartbeats 4000000
namespace B17
open PySem L2
variable{H H' H0 H2:Hp}{a x y rd od bl ol bt ot C d b rl bd zl CP tl tt kt CT dx T sl td pl kd y1 C1 d1:Addr}{xs zs:List V}{ps ex qs:List Addr}{K:PySem.W.Frag}{t:Tb}{p:Plc}{ss:List Sh}{bs:List Bk}{n i m j k:Nat}{l loose ready order L:List Nat}{g:Nat->V}{la:List (Nat × Addr)}{F:Nat->List Nat}{o:HO}{kv v:Nat->Bool}{wv:Nat->Int}{ls os pp wl:List Plc}{fs:List (Str × V)}{row kept tab:List Bool}{kvs:List (Key × V)}{Q:List V->Hp->Prop}{ts:List Tb}{ks:List Kp}{ns:List Int}{c:Int}{u:Option V}{X:Cx}
local macro_rules | `(tactic| walk_at "few")=>`(tactic| (with_reducible show (List.length (α:=Str × V) _) < 1000); first | exact (by decide:0 < 1000) | exact (by decide:1 < 1000) | exact (by decide:2 < 1000) | exact (by decide:3 < 1000) | exact (by decide:4 < 1000) | exact (by decide:5 < 1000) | exact (by decide:6 < 1000))
local macro_rules | `(tactic| walk_at "get")=>`(tactic| first
 | with_reducible assumption
 | exact af
 | (apply aA; (focus with_reducible assumption); (focus walk_at "get"))
 | (apply aB; (focus walk_at "ne"); (focus walk_at "get"))
 | (apply Ch.get; (focus with_reducible assumption); (focus walk_at "get"); (focus walk_at "notin")))
local macro_rules | `(tactic| walk_at "ne")=>`(tactic| first | with_reducible assumption | (apply B1; with_reducible assumption) | (apply aI; (focus with_reducible assumption); (focus with_reducible assumption); (focus (intro z; cases z))))
local macro_rules | `(tactic| walk_at "notin")=>`(tactic| first | exact Cp | (simp only [BV,Cp,Cq,not_or,not_false_eq_true]; first | walk_at "ne" | trivial))
local macro_rules | `(tactic| walk_at "scr")=>`(tactic| first
 | with_reducible assumption
 | (apply Scr.ch; (focus with_reducible assumption); (focus with_reducible assumption); (focus walk_at "ch"))
 | (apply Scr.same; (focus with_reducible assumption); (focus walk_at "ch")))
local macro_rules | `(tactic| walk_at "ch")=>`(tactic| first
 | with_reducible assumption
 | exact Ch.refl _ _
 | exact Ch.put
 | (apply Ch.new; with_reducible assumption)
 | (apply Ch.wk; with_reducible assumption)
 | (apply Ch.own; (focus with_reducible assumption); (focus walk_at "ch"))
 | (apply Ch.trans; (rotate_left; focus with_reducible assumption); (focus walk_at "ch"))
 | (apply Ch.trans; (rotate_left; focus (apply Ch.wk; with_reducible assumption)); (focus walk_at "ch"))
 | (apply Ch.trans; (rotate_left; focus exact Ch.put); (focus walk_at "ch"))
 | (apply Ch.trans; (rotate_left; focus (apply Ch.new; with_reducible assumption)); (focus walk_at "ch")))
local macro_rules | `(tactic| walk_at "sq")=>`(tactic| first
 | (apply Scr.sq; walk_at "scr")
 | (apply Exists.intro; walk_at "sq")
 | (refine (‹∀ H:Hp,SqT _ H _ _›) _)
 | (apply SqL.of; walk_at "get")
 | (apply SqT.of; walk_at "get")
 | (apply Or.inl; apply Scr.sq; walk_at "scr")
 | (apply Or.inl; apply SqL.of; walk_at "get")
 | (apply Or.inr; apply SqT.of; walk_at "get"))
local macro_rules | `(tactic| walk_at "arith")=>`(tactic| first
 | with_reducible exact nlo _
 | (with_reducible apply nhi; with_reducible assumption)
 | omega
 | (simp only [BF,Cm,List.length_nil,BU,Cn,DB]; done)
 | ((try dsimp only); (simp only [Cm,List.length_nil]); with_reducible first | exact sz1 | exact sz2 | exact sz3 | exact sz4)
 | ((try dsimp only); (try simp only [BF,Cm,List.length_nil,BU,Cn,DB,BR]); omega)
 | ((try dsimp only); (try simp only [BF,Cm,List.length_nil,BU,Cn,DB,BR] at *); omega))
local macro_rules | `(tactic| walk_at "cond")=>`(tactic| first
 | (refine Or.inl (And.intro ?_ ?_) <;> walk_at "arith")
 | (refine Or.inr (And.intro ?_ ?_) <;> walk_at "arith")
 | (refine And.intro ?_ (And.intro ?_ ?_) <;> walk_at "arith")
 | (refine And.intro ?_ ?_ <;> walk_at "arith"))
local macro_rules | `(tactic| walk_at "len")=>`(tactic| first
 | with_reducible assumption
 | exact len_one
 | (apply len_slice; walk_at "len")
 | (apply len_app; (focus walk_at "len"); (focus walk_at "len"))
 | exact BI _)
local macro_rules | `(tactic| walk_at "lens")=>`(tactic| first
 | (apply len_sum; (focus walk_at "len"); (focus walk_at "len"); (focus first | decide +kernel | walk_at "arith"))
 | (apply len_top; (focus walk_at "len"); (focus first | decide +kernel | walk_at "arith")))
local macro_rules | `(tactic| walk_at "side")=>`(tactic| first
 | with_reducible rfl | with_reducible assumption | walk_at "sq" | walk_at "get" | walk_at "scr" | walk_at "ch" | walk_at "ty" | exact TyOf.int _ | exact TyOf.str _ | (apply TyOf.tup; walk_at "get") | (apply TyOf.lst; walk_at "get") | exact TyOf.bl _ | exact TyOf.non | walk_at "few" | decide | walk_at "arith" | walk_at "cond" | ((try simp only [BF]); with_reducible assumption) | walk_at "lens" | (apply Or.inr; with_reducible assumption) | walk_at "user" | exact rfl | assumption)
local macro_rules | `(tactic| walk_at "ty")=>`(tactic| (refine Or.inl (And.intro rfl ?_); apply Exists.intro; walk_at "sq"))
local macro_rules | `(tactic| walk_at "user")=>`(tactic| fail)
local macro_rules | `(tactic| walk_at "rd1")=>`(tactic| first
 | apply Exists.intro
 | (refine And.intro rfl ?_)
 | (refine And.intro (show V.str _=L2.kV (Sum.inr _) from rfl) ?_)
 | (refine And.intro (show V.int _=L2.kV (Sum.inl _) from rfl) ?_)
 | (refine And.intro (L2.cut1_not _ _) ?_)
 | (apply And.intro; (focus (walk_at "side"; done)))
 | apply Atx.head
 | (apply Atx.of; (focus first | exact rfl | with_reducible assumption | ((try simp only [BF]); with_reducible assumption)))
 | (apply Or.inl; apply Exists.intro; (refine And.intro rfl ?_))
 | (apply Or.inr; apply Exists.intro; (refine And.intro rfl ?_))
 | (apply Or.inl; apply And.intro; (focus walk_at "sq"))
 | (apply Or.inr; apply And.intro; (focus walk_at "sq"))
 | (intro _)
 | walk_at "fin")
local macro_rules | `(tactic| walk_at "fin")=>`(tactic| first | exact rfl | (walk_at "get"; done))
local macro_rules | `(tactic| walk_at "rd")=>`(tactic| repeat walk_at "rd1")
local macro_rules | `(tactic| walk_at "sz")=>`(tactic| first | exact szm (by assumption) (by assumption) (by decide) | (rw [BR,BF]; omega))
local macro_rules | `(tactic| walk_at "lt")=>`(tactic| first | exact ltl (by assumption) (by assumption) | omega)
section
local macro_rules | `(tactic| walk_at "user")=>`(tactic| (apply fC; (focus walk_at "get"); (focus with_reducible assumption)))
def top (i:Nat):Stmt:=PySem.Challenge.pw_bitfloor_k43_packed.main.body.getD i (.Pass ⟨0,0,0,0⟩)
def SqX (k:SK) (H:Hp) (a:Addr) (xs:List V):Prop:=match k with
 | .list=>H a=some (.lst xs)
 | .tuple=>H a=some (.tup xs)
theorem SqX.ch {kd:SK}{H:Hp} (h:SqX kd H a xs) (c:Ch [] H H'):SqX kd H' a xs:=by
 cases kd with
 | list=>exact c.get h (by simp)
 | tuple=>exact c.get h (by simp)
def bi:Bool->Int
 | true=>1
 | false=>0
def bV (b:Bool):V:=.int (bi b)
theorem oT {α:Type} (x:α):∀ n:Nat,(List.replicate n [x]).flatten=List.replicate n x
 | 0=>rfl
 | n + 1=>by rw [Dx,List.flatten_cons,oT x n,Dx]; rfl
theorem chFree {H':Hp} (c:Ch [] H H') {r:Addr} (h:H' r=none):H r=none:=by
 cases e:H r with
 | none=>rfl
 | some o=>rw [c r o e (by simp)] at h; cases h
abbrev Wr:=List Key
abbrev Src:=Bool × Nat
def wd (b:Bool):Str:=if b then "block" else "in"
def srcK (s:Src):Wr:=[.inr (wd s.1),.inl (s.2:Int)]
def lim (a c:Nat) (b:Bool):Nat:=if b then c else a
def cntK (a c:Nat):List (Key × V):=[(.inr "in",.int (a:Int)),(.inr "block",.int (c:Int))]
theorem yS (a c:Nat) (b:Bool):valV (cntK a c) (.inr (wd b))=some (.int (lim a c b:Int)):=by cases b <;> rfl
abbrev WsAt (H:Hp):List Wr->List Addr->Prop:=Paired (fun k p=>H p=some (.tup (k.map kV)))
theorem aF {α β:Type}{R S:α->β->Prop} (h:∀ x y,R x y->S x y):∀ {xs:List α}{ys:List β},Paired R xs ys->Paired S xs ys
 | _,_,.nil=>.nil
 | _,_,.cons a t=>.cons (h _ _ a) (aF h t)
theorem bu {α β:Type}{R:α->β->Prop}{x:α}{y:β} (h:R x y):∀ {xs:List α}{ys:List β},Paired R xs ys->Paired R (xs++[x]) (ys++[y])
 | _,_,.nil=>.cons h .nil
 | _,_,.cons a t=>.cons a (bu h t)
theorem bq {α:Type}{R:α->Addr->Prop}:∀ {xs:List α}{ps:List Addr},Paired R xs ps->∀ (i:Nat) (v:V),(ps.map V.ref)[i]?=some v->∃ p x,v=.ref p/\xs[i]?=some x/\R x p
 | _,_,.nil,i,x,h=>by simp at h
 | k :: ws,p :: ps,.cons a t,0,x,h=>⟨p,k,by simpa using h.symm,rfl,a⟩
 | k :: ws,p :: ps,.cons a t,i + 1,x,h=>by
  obtain ⟨p',k',e1,e2,e3⟩:=bq t i x (by simpa using h)
  exact ⟨p',k',e1,by simpa using e2,e3⟩
theorem WsAt.tu {H:Hp} (h:Tu H H') {ks:List Wr} (s:WsAt H ks ps):WsAt H' ks ps:=aF (fun _ _ e=>h _ _ e) s
theorem bi01 (b:Bool):0<=bi b/\bi b < 2:=by cases b <;> decide
def room (n:Nat):Int:=[2,4,16,256,65536].getD n 2
theorem SqX.sq {kd:SK} (h:SqX kd H a xs):Sq kd K H a xs:=by
 cases kd with
 | list=>exact SqL.of h
 | tuple=>exact SqT.of h
theorem SqX.or {kd:SK} (h:SqX kd H a xs):SqL K H a xs\/SqT K H a xs:=by
 cases kd with
 | list=>exact .inl (SqL.of h)
 | tuple=>exact .inr (SqT.of h)
def FitK (kvs:List (Key × V)) (k:Wr):Prop:=∃ w n m,k=[.inr w,.inl n]/\valV kvs (.inr w)=some (.int m)/\0<=n/\n < m
structure Bk where
 ss:List Src
 bits:Int
 kept:Int
 first:Int
structure Bk.ok (ins many:Nat) (b:Bk):Prop where
 s4:b.ss.length<=4
 so:∀ s∈b.ss,s.2 < lim ins many s.1
 b0:0<=b.bits
 b1:b.bits < room b.ss.length
 k:b.kept=0\/b.kept=1
 f0:0<=b.first
 f1:b.first<=b.kept
def BkAt (kd:SK) (H:Hp) (b:Bk) (p:Addr):Prop:=∃ lp ps,H p=some (.tup [.ref lp,.int b.bits,.int b.kept,.int b.first])/\SqX kd H lp (ps.map V.ref)/\WsAt H (b.ss.map srcK) ps
theorem BkAt.ch {kd:SK}{H:Hp} (c:Ch [] H H') {t:Bk}{p:Addr} (s:BkAt kd H t p):BkAt kd H' t p:=let ⟨lp,ps,h,q,w⟩:=s; ⟨lp,ps,c.get h (by simp),q.ch c,WsAt.tu (Tu.same c) w⟩
theorem BkAt.tu {H:Hp} (k:Tu H H') {t:Bk}{p:Addr} (s:BkAt .tuple H t p):BkAt .tuple H' t p:=let ⟨lp,ps,h,q,w⟩:=s; ⟨lp,ps,k _ _ h,k _ _ q,WsAt.tu k w⟩
section
variable {P:Program}{w:World}{K:PySem.W.Frag}{mg:Str->Option Value}{base:Heap}{f:Addr}{fd:FuncData}{k:Nat}
theorem bA:bootBuiltins "isinstance" = some (.builtin "isinstance"):=∅
theorem oU:bootBuiltins "bool" = some (.type "bool"):=∅
theorem oV:("bool" : Str) ≠ "__name__" := ∅
theorem oW:Nd "bool" := ∅
theorem bB:("isinstance" : Str) ≠ "__name__" := ∅
theorem bC:Nd "isinstance" := ∅
theorem oX:bootBuiltins "int" = some (.type "int"):=∅
theorem oY:("int" : Str) ≠ "__name__" := ∅
theorem oZ:Nd "int" := ∅
theorem jt:Nd "is_whole" := ∅
theorem bD:bootBuiltins "tuple" = some (.type "tuple"):=∅
theorem bE:("tuple" : Str) ≠ "__name__" := ∅
theorem bF:Nd "tuple" := ∅
theorem cm:bootBuiltins "list" = some (.type "list"):=∅
theorem cu:("list" : Str) ≠ "__name__" := ∅
theorem cw:Nd "list" := ∅
theorem ju:bootBuiltins "str" = some (.type "str"):=∅
theorem jv:("str" : Str) ≠ "__name__" := ∅
theorem jw:Nd "str" := ∅
theorem aK:("len" : Str) ≠ "__name__" := ∅
theorem aL:Nd "len" := ∅
theorem e6:Nd "is_below" := ∅
theorem dH:Nd "is_listed" := ∅
theorem cZ:bootBuiltins "all" = some (.builtin "all"):=∅
theorem fG:Nd "is_place" := ∅
theorem dc:("all" : Str) ≠ "__name__" := ∅
theorem de:Nd "all" := ∅
theorem o7:Nd "is_table" := ∅
theorem gl6:AG (defScope (top 6)) ["isinstance", "bool", "int"]:=⟨∅⟩
theorem av6:AF (defScope (top 6)) ["thing"]:=⟨∅⟩
def spWhole:Sp:=fun vs H Q _=>∃ i:Int,vs=[.int i]/\Q (.bl true) H
theorem scWhole:FnScope ["thing"] ["thing"] (defScope (top 6)):=⟨rfl,rfl,rfl,∅,rfl,∅,∅⟩
theorem yT (F:Fun K "is_whole" "is_whole" (top 6) f fd) (z_isinstance:mg "isinstance" = none) (z_int:mg "int" = none) (z_bool:mg "bool" = none):FnOk P w K mg base CX0 (k + 1) f fd ["thing"] spWhole:=by
 have nd:=scWhole.nd;refine F.ok scWhole (fun vs H Q E h=>by obtain ⟨i,rfl,_⟩:=h; rfl) (fun cdv A outer s H vs Q E hr h=>?_)
 obtain ⟨i,rfl,q⟩:=h;refine ⟨_,(Pr.h (ai (au (bY (aq bI (gl6.g 0 rfl) z_isinstance bA (aa (qv av6 0 rfl) (aa (bw (v:=.ty "int") (gl6.g 2 rfl) z_int oX rfl oY oZ) ab)) bB bC) (cJ (ni (aq bI (gl6.g 0 rfl) z_isinstance bA (aa (qv av6 0 rfl) (aa (bw (v:=.ty "bool") (gl6.g 1 rfl) z_bool oU rfl oV oW) ab)) bB bC))))))),?_⟩
 (try dsimp only [cxOf])
 walk_at "rd"; exact q
theorem av7:AF (defScope (top 7)) ["thing", "bound"]:=⟨∅⟩
theorem gl7:AG (defScope (top 7)) ["is_whole"]:=⟨∅⟩
def spBelow:Sp:=fun vs H Q _=>∃ i b:Int,vs=[.int i,.int b]/\0<=i/\i < b/\Q (.bl true) H
theorem scBelow:FnScope ["thing", "bound"] ["thing", "bound"] (defScope (top 7)):=⟨rfl,rfl,rfl,∅,rfl,∅,∅⟩
theorem yU (F:Fun K "is_below" "is_below" (top 7) f fd) (Dis_whole:DefOk P w K mg base CX0 k "is_whole" ["thing"] spWhole):FnOk P w K mg base CX0 (k + 1) f fd ["thing", "bound"] spBelow:=by
 have nd:=scBelow.nd;refine F.ok scBelow (fun vs H Q E h=>by obtain ⟨i,b,rfl,_⟩:=h; rfl) (fun cdv A outer s H vs Q E hr h=>?_)
 obtain ⟨i,b,rfl,h0,h1,q⟩:=h;refine ⟨_,(Pr.h (ai (au (bY (ao Dis_whole hr (gl7.g 0 rfl) pass0 (aa (qv av7 0 rfl) ab ae) jt) (cJ (wU uK eO ag (qv av7 0 rfl) (qv av7 1 rfl))))))),?_⟩
 (try dsimp only [cxOf])
 walk_at "rd";refine ite2 (fun _=>?_) (fun h=>absurd (Co h0) h)
 walk_at "rd";show Q (.bl (decide (i < b))) H;rw [Co h1]; exact q
theorem gl8:AG (defScope (top 8)) ["tuple", "list", "isinstance"]:=⟨∅⟩
theorem av8:AF (defScope (top 8)) ["thing"]:=⟨∅⟩
def spListed:Sp:=fun vs H Q _=>∃ (kd:SK) (a:Addr) (xs:List V),vs=[.ref a]/\SqX kd H a xs/\∀ H',Ch [] H H'->Q (.bl true) H'
theorem scListed:FnScope ["thing"] ["thing"] (defScope (top 8)):=⟨rfl,rfl,rfl,∅,rfl,∅,∅⟩
theorem yV (F:Fun K "is_listed" "is_listed" (top 8) f fd) (z_isinstance:mg "isinstance" = none) (z_list:mg "list" = none) (z_tuple:mg "tuple" = none):FnOk P w K mg base CX0 (k + 1) f fd ["thing"] spListed:=by
 have nd:=scListed.nd;refine F.ok scListed (fun vs H Q E h=>by obtain ⟨kd,a,xs,rfl,_⟩:=h; rfl) (fun cdv A outer s H vs Q E hr h=>?_)
 obtain ⟨kd,a,xs,rfl,hx,q⟩:=h;refine ⟨_,(Pr.h (ai (au (aq xC (gl8.g 2 rfl) z_isinstance bA (aa (qv av8 0 rfl) (aa (aN (aa (bw (v:=.ty "list") (gl8.g 1 rfl) z_list cm rfl cu cw) (aa (bw (v:=.ty "tuple") (gl8.g 0 rfl) z_tuple bD rfl bE bF) ab ae) ae)) ab)) bB bC)))),?_⟩
 (try dsimp only [cxOf])
 cases kd with
 | list =>
  have hx:H a=some (.lst xs):=hx;walk_at "rd";exact q _ (Ch.new (by assumption) _)
 | tuple =>
  have hx:H a=some (.tup xs):=hx;walk_at "rd";exact q _ (Ch.new (by assumption) _)
theorem gl9:AG (defScope (top 9)) ["isinstance", "str", "len", "tuple", "is_below"]:=⟨∅⟩
theorem av9:AF (defScope (top 9)) ["thing", "counts"]:=⟨∅⟩
def spPlace:Sp:=fun vs H Q _=>∃ (p cd:Addr) (kvs:List (Key × V)) (w:Str) (n m:Int),vs=[.ref p,.ref cd]/\H p=some (.tup [.str w,.int n])/\H cd=some (.dK kvs)/\valV kvs (.inr w)=some (.int m)/\0<=n/\n < m/\Q (.bl true) H
theorem scPlace:FnScope ["thing", "counts"] ["thing", "counts"] (defScope (top 9)):=⟨rfl,rfl,rfl,∅,rfl,∅,∅⟩
theorem yW (F:Fun K "is_place" "is_place" (top 9) f fd) (Dis_below:DefOk P w K mg base CX0 k "is_below" ["thing", "bound"] spBelow) (z_isinstance:mg "isinstance" = none) (z_tuple:mg "tuple" = none) (z_str:mg "str" = none) (z_len:mg "len" = none):FnOk P w K mg base CX0 (k + 1) f fd ["thing", "counts"] spPlace:=by
 have nd:=scPlace.nd;refine F.ok scPlace (fun vs H Q E h=>by obtain ⟨p,cd,kvs,w,n,m,rfl,_⟩:=h; rfl) (fun cdv A outer s H vs Q E hr h=>?_)
 obtain ⟨p,cd,kvs,w,n,m,rfl,hp,hc,cv,h0,h1,q⟩:=h;have hu:=di hr;refine ⟨_,(Pr.h (ah (aC (bz (bg (aX (aO (aq bI (gl9.g 0 rfl) z_isinstance bA (aa (qv av9 0 rfl) (aa (bw (v:=.ty "tuple") (gl9.g 3 rfl) z_tuple bD rfl bE bF) ab)) bB bC))) (bg (ax cx (aq aJ (gl9.g 2 rfl) z_len BY (aa (qv av9 0 rfl) ab ae) aK aL) ag (nomark _)) (bJ (aX (aO (aq bI (gl9.g 0 rfl) z_isinstance bA (aa (ak az (qv av9 0 rfl) ag (fun _ _=>rfl)) (aa (bw (v:=.ty "str") (gl9.g 1 rfl) z_str ju rfl jv jw) ab)) bB bC))))))) (ai (au bh)) aE) (ai (au (bY (xQ hu (ak az (qv av9 0 rfl) ag (fun _ _=>rfl)) (qv av9 1 rfl)) (cJ (ao Dis_below hr (gl9.g 4 rfl) pass0 (aa (ak az (qv av9 0 rfl) ag (fun _ _=>rfl)) (aa (ck hu (qv av9 1 rfl) (ak az (qv av9 0 rfl) ag (fun _ _=>rfl)) (fun _ _=>rfl)) ab aS) aS) e6))))))),?_⟩
 (try dsimp only [cxOf])
 walk_at "rd"
theorem gl14:AG (defScope (top 14)) ["len", "is_listed", "isinstance", "tuple", "all", "is_below"]:=⟨∅⟩
theorem av14:AF (defScope (top 14)) ["thing", "counts"]:=⟨∅⟩
def gB:Scope:={ kind:=PySem.ScopeKind.function,names:=[ (PySem.Str.ofString ".0",PySem.NameKind.local),(PySem.Str.ofString "leaf",PySem.NameKind.local),(PySem.Str.ofString "is_place",PySem.NameKind.globalImplicit),(PySem.Str.ofString "counts",PySem.NameKind.free)],isGenerator:=false,isCoroutine:=false,more:=[]:PySem.Scope }
theorem o8:CompOk gB (defScope (top 14)) (["leaf"]:List Str) (["thing", "counts"]:List Str) [1] (["leaf", "counts"]:List Str):=compOk rfl ∅ ∅ ∅ ∅ rfl ∅
theorem pd:AK (relab gB (defScope (top 14))) ["leaf"]:=⟨∅⟩
theorem yX:AG (relab gB (defScope (top 14))) ["is_place"]:=⟨∅⟩
theorem pe:AV (relab gB (defScope (top 14))) ["leaf", "counts"]:=⟨∅⟩
def spTable:Sp:=fun vs H Q _=>∃ (kd:SK) (p cd lp:Addr) (kvs:List (Key × V)) (ps:List Addr) (ks:List Wr) (bits:Int),vs=[.ref p,.ref cd]/\H p=some (.tup [.ref lp,.int bits])/\SqX kd H lp (ps.map V.ref)/\WsAt H ks ps/\H cd=some (.dK kvs)/\ks.length<=4/\0<=bits/\bits < room ks.length/\(∀ k∈ks,FitK kvs k)/\∀ H',Ch [] H H'->Q (.bl true) H'
theorem scTable:FnScope ["thing", "counts"] ["thing", "counts"] (defScope (top 14)):=⟨rfl,rfl,rfl,∅,rfl,∅,∅⟩
theorem yY (F:Fun K "is_table" "is_table" (top 14) f fd) (Dis_below:DefOk P w K mg base CX0 k "is_below" ["thing", "bound"] spBelow) (Dis_listed:DefOk P w K mg base CX0 k "is_listed" ["thing"] spListed) (Dis_place:DefOk P w K mg base CX0 k "is_place" ["thing", "counts"] spPlace) (z_isinstance:mg "isinstance" = none) (z_tuple:mg "tuple" = none) (z_all:mg "all" = none) (z_len:mg "len" = none):FnOk P w K mg base CX0 (k + 1) f fd ["thing", "counts"] spTable:=by
 have nd:=scTable.nd;refine F.ok scTable (fun vs H Q E h=>by obtain ⟨kd,p,cd,lp,kvs,ps,ks,bits,rfl,_⟩:=h; rfl) (fun cdv A outer s H vs Q E hr h=>?_)
 obtain ⟨kd,p,cd,lp,kvs,ps,ks,bits,rfl,hp,hs,ws,hc,s4,b0,b1,fit,q⟩:=h;have hu:=di hr;have ls:=BH ws;obtain ⟨ln,el⟩:∃ ln,(ps.map V.ref).length=ln:=⟨_,rfl⟩;rw [ls,<- BF (f:=V.ref),el] at s4 b1;have b1:bits < 1 * 2 ^ (1 * 2 ^ (ln:Int).toNat:Int).toNat/\(0:Int)<=1 * 2 ^ (ln:Int).toNat/\(1:Int) * 2 ^ (ln:Int).toNat<=16:=by
  rw [Dc];have e5:ln=0\/ln=1\/ln=2\/ln=3\/ln=4:=by omega
  rcases e5 with e | e | e | e | e <;> (rw [e] at b1 ⊢; exact ⟨b1,by decide,by decide⟩)
 obtain ⟨b1,p0,p1⟩:=b1;rw [<- el] at b1 p0 p1 s4;clear el ls;refine ⟨_,(Pr.h (ah (aC (bz (bg (aX (aO (aq bI (gl14.g 2 rfl) z_isinstance bA (aa (qv av14 0 rfl) (aa (bw (v:=.ty "tuple") (gl14.g 3 rfl) z_tuple bD rfl bE bF) ab)) bB bC))) (bg (ax cx (aq aJ (gl14.g 0 rfl) z_len BY (aa (qv av14 0 rfl) ab ae) aK aL) ag (nomark _)) (bg (aX (aO (ao Dis_listed hr (gl14.g 1 rfl) pass0 (aa (ak az (qv av14 0 rfl) ag (fun _ _=>rfl)) ab aS) dH))) (bJ (ax eP (aq aJ (gl14.g 0 rfl) z_len BY (aa (ak az (qv av14 0 rfl) ag (fun _ _=>rfl)) ab aS) aK aL) ag (nomark _))))))) (ai (au bh)) aE) (ai (au (bY (ao Dis_below hr (gl14.g 5 rfl) pass0 (aa (ak az (qv av14 0 rfl) ag (fun _ _=>rfl)) (aa (av fY ag (av fY ag (aq aJ (gl14.g 0 rfl) z_len BY (aa (ak az (qv av14 0 rfl) ag (fun _ _=>rfl)) ab aS) aK aL))) ab bT) aS) e6) (cJ (aq (cX rfl) (gl14.g 4 rfl) z_all cZ (aa (aR rfl o8 (eW K rfl kd (ak az (qv av14 0 rfl) ag (fun _ _=>rfl))) (fun _ _ _ _ _=>(aj (i:=0) o8.nd rfl (Or.inl (pd.k 0 rfl)) (Or.inr (pd.k 0 rfl)))) (fun _ _ _ _ _=>aU) (fun _ _ _ _ _=>(ao Dis_place hr (yX.g 0 rfl) pass0 (aa (qw pe 0 rfl) (aa (qw pe 1 rfl) ab ae) ae) fG))) ab bc) dc de))))))),?_⟩
 (try dsimp only [cxOf])
 walk_at "rd";rename_i H1 c1;have hs1:=hs.ch c1;have hp1:H1 p=some (.tup [.ref lp,.int bits]):=c1.get hp (by simp)
 have so:SqL K H1 lp (ps.map V.ref)\/SqT K H1 lp (ps.map V.ref):=hs1.or;refine ⟨so,?_⟩;walk_at "rd";refine ite2 (fun hc=>absurd (of_decide_eq_true hc) (by omega)) (fun _=>?_)
 walk_at "rd";refine ⟨⟨_,hs1.sq⟩,?_⟩;refine fB (ps.map V.ref) (fun i ys σ H'=>H'=H1/\ys=List.replicate i (V.bl true)/\∃ u,σ=[u,some (.ref cd)]) (by rw [BR]; omega) ⟨rfl,rfl,_,rfl⟩ ?_ ?_ ?_
 ·rintro i ys σ H' hi ⟨rfl,rfl,_⟩
  exact ⟨by simp,hs1.sq⟩
 ·rintro i ys σ H' z hz ⟨rfl,rfl,u,rfl⟩
  obtain ⟨pl,x,rfl,es,e2⟩:=bq (ws.tu (Tu.same c1)) i z hz;obtain ⟨w,n,m,rfl,k1,k2,k3⟩:=fit x (BO es);have e2:H' pl=some (.tup [.str w,.int n]):=e2;have hc1:H' cd=some (.dK kvs):=c1.get hc (by simp)
  walk_at "rd";exact ⟨by rw [<- C7],_,rfl⟩
 ·rintro ys σ H' ⟨rfl,rfl,_⟩
  intro D hD;refine ⟨D,List.replicate (ps.map V.ref).length true,rfl,by rw [af,List.map_replicate],?_⟩
  rw [show (List.replicate (ps.map V.ref).length true).all id=true from by simp [List.all_replicate]]
  exact q _ (c1.trans (Ch.new hD _))
theorem gl21:AG (defScope (top 21)) ["is_table", "len", "isinstance", "tuple", "is_below"]:=⟨∅⟩
theorem av21:AF (defScope (top 21)) ["thing", "counts"]:=⟨∅⟩
theorem pf {a c:Nat}{ss:List Src} (h:∀ s∈ss,s.2 < lim a c s.1):∀ k∈ss.map srcK,FitK (cntK a c) k:=fun k hk=>by
 obtain ⟨s,hs,rfl⟩:=BQ.mp hk;exact ⟨_,_,_,rfl,yS a c s.1,Dw _,Int.ofNat_lt.mpr (h s hs)⟩
def spBlock:Sp:=fun vs H Q _=>∃ (kd:SK) (p cd:Addr) (a c:Nat) (b:Bk),vs=[.ref p,.ref cd]/\BkAt kd H b p/\b.ok a c/\H cd=some (.dK (cntK a c))/\∀ H',Ch [] H H'->Q (.bl true) H'
theorem scBlock:FnScope ["thing", "counts"] ["thing", "counts"] (defScope (top 21)):=⟨rfl,rfl,rfl,∅,rfl,∅,∅⟩
theorem yZ (F:Fun K "is_block" "is_block" (top 21) f fd) (Dis_below:DefOk P w K mg base CX0 k "is_below" ["thing", "bound"] spBelow) (Dis_table:DefOk P w K mg base CX0 k "is_table" ["thing", "counts"] spTable) (z_isinstance:mg "isinstance" = none) (z_tuple:mg "tuple" = none) (z_len:mg "len" = none):FnOk P w K mg base CX0 (k + 1) f fd ["thing", "counts"] spBlock:=by
 have nd:=scBlock.nd;refine F.ok scBlock (fun vs H Q E h=>by obtain ⟨kd,p,cd,a,c,b,rfl,_⟩:=h; rfl) (fun cdv A outer s H vs Q E hr h=>?_)
 obtain ⟨kd,p,cd,a,c,⟨ss,bits,kept,first⟩,rfl,⟨lp,ps,hp,hs,ws⟩,ok,hc,q⟩:=h
 dsimp only at hp hs ws
 refine ⟨_,(Pr.h (ah (aC (bz (bg (aX (aO (aq bI (gl21.g 2 rfl) z_isinstance bA (aa (qv av21 0 rfl) (aa (bw (v:=.ty "tuple") (gl21.g 3 rfl) z_tuple bD rfl bE bF) ab)) bB bC))) (bg (ax cx (aq aJ (gl21.g 1 rfl) z_len BY (aa (qv av21 0 rfl) ab ae) aK aL) ag (nomark _)) (bJ (aX (aO (ao Dis_table hr (gl21.g 0 rfl) pass0 (aa (i0 mG (qv av21 0 rfl) i7 (i8 ag)) (aa (qv av21 1 rfl) ab ae) aS) o7))))))) (ai (au bh)) aE) (ai (au (bY (ao Dis_below hr (gl21.g 4 rfl) pass0 (aa (ak az (qv av21 0 rfl) ag (fun _ _=>rfl)) (aa ag ab aV) aS) e6) (cJ (ao Dis_below hr (gl21.g 4 rfl) pass0 (aa (ak az (qv av21 0 rfl) ag (fun _ _=>rfl)) (aa (av cH (ak az (qv av21 0 rfl) ag (fun _ _=>rfl)) ag) ab bT) aS) e6))))))),?_⟩
 (try dsimp only [cxOf])
 walk_at "rd";refine ⟨(show ¬((0:Nat)=0/\(2:Nat)=4) from by omega),fun T hT=>?_⟩
 have cT:Ch [] H (upd H T (.tup [.ref lp,.int bits])):=Ch.new hT _;have k:=ok.k;have f0:=ok.f0;have f1:=ok.f1
 dsimp only at k f0 f1
 have k0:0<=kept:=by omega
 have k1:kept < 2:=by omega
 have f1:first < kept + 1:=by omega
 walk_at "rd";refine ⟨(hs.ch cT:SqX kd _ lp (ps.map V.ref)),WsAt.tu (Tu.same cT) ws,aA hT hc,by rw [BF]; exact ok.s4,ok.b0,by rw [BF]; exact ok.b1,pf ok.so,fun H2 c2=>?_⟩
 have c02:Ch [] H H2:=cT.trans c2;have hp2:=c02.get hp (by simp)
 clear cT c2 hs ws hc hp k;walk_at "rd";exact q _ c02
end
end

section
def nV (a:Nat):V:=.int (a:Int)
abbrev BsAt (kd:SK) (H:Hp):List Bk->List Addr->Prop:=Paired (BkAt kd H)
theorem dv {kd:SK}{H:Hp} (c:Ch [] H H') (s:BsAt kd H bs ps):BsAt kd H' bs ps:=aF (fun _ _ e=>BkAt.ch c e) s
theorem fH {kd:SK}:∀ {bs:List Bk}{ps:List Addr},BsAt kd H bs ps->∀ (i:Nat),i < bs.length->∃ p b,(ps.map V.ref)[i]?=some (.ref p)/\bs[i]?=some b/\BkAt kd H b p
 | _,_,.nil,i,h=>by simp at h
 | b :: bs,p :: ps,.cons a t,0,_=>⟨p,b,rfl,rfl,a⟩
 | b :: bs,p :: ps,.cons a t,i + 1,h=>by
  obtain ⟨p',b',e1,e2,e3⟩:=fH t i (by simpa using h)
  exact ⟨p',b',by simpa using e1,by simpa using e2,e3⟩
theorem gC {kd:SK} (s:BsAt kd H bs ps) (i:Nat) (h:i < bs.length):∃ p b,atI (ps.map V.ref) (i:Int)=some (.ref p)/\bs[i]?=some b/\BkAt kd H b p:=by
 obtain ⟨p,b,e1,e2,e3⟩:=fH s i h;exact ⟨p,b,bW e1,e2,e3⟩
def loB (bs:List Bk) (n:Nat):Bool:=match bs[n]? with
 | some b=>decide (b.kept=0)
 | none=>false
def lsOf (bs:List Bk) (n:Nat):List Nat:=match bs[n]? with
 | some b=>(b.ss.filter fun s=>s.1 && loB bs s.2).map (·.2)
 | none=>[]
def looseOf (bs:List Bk):List Nat:=(List.range bs.length).filter (loB bs)
theorem eF{b:Bk} (h:bs[n]?=some b):loB bs n=decide (b.kept=0):=by unfold loB; rw [h]
theorem jx{b:Bk} (h:bs[n]?=some b):lsOf bs n=(b.ss.filter fun s=>s.1 && loB bs s.2).map (·.2):=by unfold lsOf; rw [h]
section
variable {P:Program}{w:World}{K:PySem.W.Frag}{mg:Str->Option Value}{base:Heap}{f:Addr}{fd:FuncData}{k:Nat}
theorem dP:bootBuiltins "dict" = some (.type "dict"):=∅
theorem ph:Nd "loose_sources" := ∅
theorem dQ:("dict" : Str) ≠ "__name__" := ∅
theorem dS:Nd "dict" := ∅
theorem pj:Nd "loose_order" := ∅
theorem av22:AF (defScope (top 22)) ["blocks", "number"]:=⟨∅⟩
def jy:Scope:={ kind:=PySem.ScopeKind.function,names:=[ (PySem.Str.ofString ".0",PySem.NameKind.local),(PySem.Str.ofString "word",PySem.NameKind.local),(PySem.Str.ofString "other",PySem.NameKind.local),(PySem.Str.ofString "blocks",PySem.NameKind.free)],isGenerator:=false,isCoroutine:=false,more:=[]:PySem.Scope }
theorem jz:CompOk jy (defScope (top 22)) (["word", "other"]:List Str) (["blocks", "number"]:List Str) [0] (["word", "other", "blocks"]:List Str):=compOk rfl ∅ ∅ ∅ ∅ rfl ∅
theorem gF:AK (relab jy (defScope (top 22))) ["word", "other"]:=⟨∅⟩
theorem gG:AV (relab jy (defScope (top 22))) ["word", "other", "blocks"]:=⟨∅⟩
def spLS:Sp:=fun vs H Q _=>∃ (kd kd2:SK) (bl:Addr) (n ins:Nat) (bs:List Bk) (ps:List Addr),vs=[.ref bl,.int (n:Int)]/\SqX kd H bl (ps.map V.ref)/\BsAt kd2 H bs ps/\(∀ b∈bs,b.ok ins bs.length)/\n < bs.length /\
 ∀ p H',Ch [] H H'->H p=none->H' p=some (.lst ((lsOf bs n).map nV))->Q (.ref p) H'
theorem scLS:FnScope ["blocks", "number"] ["blocks", "number"] (defScope (top 22)):=⟨rfl,rfl,rfl,∅,rfl,∅,∅⟩
theorem y0 (F:Fun K "loose_sources" "loose_sources" (top 22) f fd):FnOk P w K mg base CX0 (k + 1) f fd ["blocks", "number"] spLS:=by
 have nd:=scLS.nd;refine F.ok scLS (fun vs H Q E h=>by obtain ⟨kd,kd2,bl,n,ins,bs,ps,rfl,_⟩:=h; rfl) (fun cdv A outer s H vs Q E hr h=>?_)
 obtain ⟨kd,kd2,bl,n,ins,bs,ps,rfl,hb,bt,ok,hn,q⟩:=h;obtain ⟨p,b,e1,e2,⟨lp,sps,hp,hs,ws⟩⟩:=gC bt n hn;have okb:=ok b (BO e2);have ls:=BH ws;rw [BF] at ls;have s4:=okb.s4;refine ⟨_,(Pr.h (ai (au (aR rfl jz (eW K rfl kd2 (ak az (ak (gz K rfl) (qv av22 0 rfl) (qv av22 1 rfl) (fun _ _=>rfl)) ag (fun _ _=>rfl))) (fun _ _ _ _ _=>(bP K 2 rfl rfl (aw (aj (i:=0) jz.nd rfl (Or.inl (gF.k 0 rfl)) (Or.inr (gF.k 0 rfl))) (aw (aj (i:=1) jz.nd rfl (Or.inl (gF.k 1 rfl)) (Or.inr (gF.k 1 rfl))) ba)))) (fun _ _ _ _ _=>(dG (bz (i3 (ax br (qw gG 0 rfl) aM (nomark _)) (i6 (ax br (ak (cY K rfl) (ak (gz K rfl) (qw gG 2 rfl) (qw gG 1 rfl) (fun _ _=>rfl)) ag (fun _ _=>rfl)) ag (nomark _))))))) (fun _ _ _ _ _=>(qw gG 1 rfl)))))),?_⟩
 (try dsimp only [cxOf])
 have so0:SqL K H bl (ps.map V.ref)\/SqT K H bl (ps.map V.ref):=hb.or;walk_at "rd";refine ⟨⟨_,hs.sq⟩,?_⟩;refine fB (sps.map V.ref) (fun i ys σ H'=>H'=H/\ys=(((b.ss.take i).filter fun s=>s.1 && loB bs s.2).map (·.2)).map nV/\∃ u v,σ=[u,v,some (.ref bl)]) (by walk_at "sz") ⟨rfl,rfl,_,_,rfl⟩ ?_ ?_ ?_
 ·rintro i ys σ H' hi ⟨rfl,rfl,_⟩
  refine ⟨?_,hs.sq⟩;rw [BF,BF];exact B7 (CO _ _) (Ds _ _)
 ·rintro i ys σ H' z hz ⟨rfl,rfl,u,v,rfl⟩
  obtain ⟨pl,x,rfl,g1,g2⟩:=bq ws i z hz;rw [BN] at g1;obtain ⟨sr,es,rfl⟩:=B5.mp g1;have so:=okb.so sr (BO es);have et:b.ss.take (i + 1)=b.ss.take i++[sr]:=by rw [B0,es]; rfl
  rw [et,Dy,BL,BL];obtain ⟨sb,sn⟩:=sr;cases sb with
  | false =>
   have g2:H' pl=some (.tup [.str "in",.int (sn:Int)]):=g2;walk_at "rd";exact ⟨by simp,_,_,rfl⟩
  | true =>
   have g2:H' pl=some (.tup [.str "block",.int (sn:Int)]):=g2;have so:sn < bs.length:=so;obtain ⟨p2,b2,k1,k2,⟨_,_,k3,_⟩⟩:=gC bt sn so;have lo:=eF k2;walk_at "rd";refine ite2 (fun hc=>?_) (fun hc=>?_)
   ·have hk:b2.kept=0:=by simpa using hc
    rw [hk] at lo;exact ⟨_,rfl,rfl,by simp [lo]; rfl,_,_,rfl⟩
   ·have hk:b2.kept≠0:=by simpa using hc
    exact ⟨rfl,by simp [lo,hk],_,_,rfl⟩
 ·rintro ys σ H' ⟨rfl,rfl,_⟩
  intro D hD;refine q D _ (Ch.new hD _) hD ?_;rw [af,BF,<- ls,B2,jx e2]
end
local macro_rules | `(tactic| walk_at "user")=>`(tactic| first
 | (apply eY; (focus walk_at "get"); (focus with_reducible assumption))
 | (apply dputI; (focus walk_at "get"); (focus with_reducible assumption)))
def wD (l:List Nat) (g:Nat->V):List (Key × V):=l.map fun (n:Nat)=>((Sum.inl (n:Int):Key),g n)
theorem fI{g:Nat->V} (h:n∈l):valV (wD l g) (.inl (n:Int))=some (g n):=by
 induction l with
 | nil=>simp at h
 | cons m l ih =>
  by_cases e:m=n
  ·subst e; exact cg (κ:=Key) rfl
  ·show valV (((Sum.inl (m:Int):Key),g m) :: wD l g) _=_
   have e':¬ ((Sum.inl (m:Int):Key)=Sum.inl (n:Int)):=fun z=>e (by injection z with z; omega)
   rw [bX e'];exact ih (by simpa [B1 e] using h)
theorem y3 (v:V) (h:n∈l):putK (wD l g) (.inl (n:Int)) v=wD l (fun m=>if m=n then v else g m):=by
 unfold putK;rw [ft,fI h,if_pos (show (some (g n)).isSome=true from rfl)];unfold wD;rw [CA];refine List.map_congr_left fun m _=>?_
 by_cases e:m=n
 ·subst e; simp
 ·have e':¬ ((Sum.inl (m:Int):Key)=Sum.inl (n:Int)):=fun z=>e (by injection z with z; omega)
  simp only [Function.comp,if_neg e',if_neg e]
theorem pz{g':Nat->V} (h:∀ n∈l,g n=g' n):wD l g=wD l g':=List.map_congr_left fun n hn=>by rw [h n hn]
theorem gH (h:l.Nodup):((wD l g).map (·.1)).Nodup:=by
 unfold wD;rw [CA]
 induction l with
 | nil=>simp
 | cons n l ih =>
  obtain ⟨a,b⟩:=CU.mp h;rw [B4,CU];refine ⟨fun z=>?_,ih b⟩
  obtain ⟨m,hm,e⟩:=BQ.mp z;have e:(Sum.inl (m:Int):Key)=Sum.inl (n:Int):=e;have:m=n:=by injection e with e; omega
  exact a (this ▸ hm)
def laD (la:List (Nat × Addr)):List (Key × V):=la.map fun p=>((Sum.inl (p.1:Int):Key),V.ref p.2)
structure Fed (H0 H:Hp) (fd:Addr) (la:List (Nat × Addr)) (F:Nat->List Nat):Prop where
 at_:H fd=some (.dK (laD la))
 ls:∀ p∈la,H p.2=some (.lst ((F p.1).map nV))/\H0 p.2=none
 n1:(la.map (·.1)).Nodup
 n2:(la.map (·.2)).Nodup
theorem Fed.ch {H:Hp}{fd:Addr} (s:Fed H0 H fd la F) (c:Ch [] H H'):Fed H0 H' fd la F:=⟨c.get s.at_ (by simp),fun p hp=>⟨c.get (s.ls p hp).1 (by simp),(s.ls p hp).2⟩,s.n1,s.n2⟩
theorem Fed.put{fd q:Addr} (s:Fed H0 H fd la F) (h1:fd≠q) (h2:∀ p∈la,p.2≠q):Fed H0 (upd H q o) fd la F:=⟨aB h1 s.at_,fun p hp=>⟨aB (h2 p hp) (s.ls p hp).1,(s.ls p hp).2⟩,s.n1,s.n2⟩
theorem y4 {la:List (Nat × Addr)} (n1:(la.map (·.1)).Nodup) {p q:Nat × Addr} (hp:p∈la) (hq:q∈la) (e:p.1=q.1):p=q:=by
 induction la with
 | nil=>simp at hp
 | cons a la ih =>
  rw [B4,CU] at n1;rcases BV.mp hp with e1 | hp' <;> rcases BV.mp hq with e2 | hq'
  ·rw [e1,e2]
  ·exact absurd (BQ.mpr ⟨q,hq',by rw [<- e,e1]⟩) n1.1
  ·exact absurd (BQ.mpr ⟨p,hp',by rw [e,e2]⟩) n1.1
  ·exact ih n1.2 hp' hq'
theorem y6 {la:List (Nat × Addr)} (n2:(la.map (·.2)).Nodup) {p q:Nat × Addr} (hp:p∈la) (hq:q∈la) (e:p.2=q.2):p=q:=by
 induction la with
 | nil=>simp at hp
 | cons a la ih =>
  rw [B4,CU] at n2;rcases BV.mp hp with e1 | hp' <;> rcases BV.mp hq with e2 | hq'
  ·rw [e1,e2]
  ·exact absurd (BQ.mpr ⟨q,hq',by rw [<- e,e1]⟩) n2.1
  ·exact absurd (BQ.mpr ⟨p,hp',by rw [e,e2]⟩) n2.1
  ·exact ih n2.2 hp' hq'
theorem Fed.add{fd:Addr}{p:Nat × Addr}{x:Nat} (s:Fed H0 H fd la F) (hp:p∈la):Fed H0 (upd H p.2 (.lst ((F p.1).map nV++[nV x]))) fd la (fun m=>if m=p.1 then F m++[x] else F m):=by
 refine ⟨aB (aI s.at_ (s.ls p hp).1 (by intro z; cases z)) s.at_,fun r hr=>⟨?_,(s.ls r hr).2⟩,s.n1,s.n2⟩
 by_cases e:r.1=p.1
 ·have:r=p:=y4 s.n1 hr hp e
  subst this;rw [af,if_pos rfl,BL];rfl
 ·have ne:r.2≠p.2:=fun z=>e (by rw [y6 s.n2 hr hp z])
  rw [aD ne,if_neg e];exact (s.ls r hr).1
theorem za (n1:(la.map (·.1)).Nodup) {p:Nat × Addr} (hp:p∈la):valV (laD la) (.inl (p.1:Int))=some (.ref p.2):=by
 induction la with
 | nil=>simp at hp
 | cons q la ih =>
  rw [B4,CU] at n1;rcases BV.mp hp with rfl | hp
  ·exact cg (κ:=Key) rfl
  ·have ne:q.1≠p.1:=fun e=>n1.1 (e ▸ BQ.mpr ⟨p,hp,rfl⟩)
   show valV (((Sum.inl (q.1:Int):Key),V.ref q.2) :: laD la) _=_;have e':¬ ((Sum.inl (q.1:Int):Key)=Sum.inl (p.1:Int)):=fun z=>ne (by injection z with z; omega)
   rw [bX e'];exact ih n1.2 hp
theorem Fed.of {H0:Hp}{fd:Addr} (s:Fed H0 H fd la F) (hn:n∈la.map (·.1)):∃ a,valV (laD la) (.inl (n:Int))=some (.ref a)/\(n,a)∈la/\H a=some (.lst ((F n).map nV)):=by
 obtain ⟨⟨m,a⟩,hp,rfl⟩:=BQ.mp hn;exact ⟨a,za s.n1 hp,hp,(s.ls _ hp).1⟩
abbrev TsAt (H:Hp):List Addr->List (Key × V)->Prop:=Paired (fun t kv=>H t=some (.tup [kV kv.1,kv.2]))
theorem dI (c:Ch [] H H'):∀ {ts:List Addr}{kvs:List (Key × V)},TsAt H ts kvs->TsAt H' ts kvs
 | _,_,.nil=>.nil
 | _,_,.cons a t=>.cons (c.get a (by simp)) (dI c t)
theorem fJ{t:Addr}{kv:Key × V} (h:H t=some (.tup [kV kv.1,kv.2])):∀ {ts:List Addr}{kvs:List (Key × V)},TsAt H ts kvs->TsAt H (ts++[t]) (kvs++[kv])
 | _,_,.nil=>.cons h .nil
 | _,_,.cons a t=>.cons a (fJ h t)
theorem fK:∀ {ts:List Addr}{kvs:List (Key × V)},TsAt H ts kvs->∀ (i:Nat) (t:Addr) (kv:Key × V),ts[i]?=some t->kvs[i]?=some kv->H t=some (.tup [kV kv.1,kv.2])
 | _,_,.nil,i,t,kv,h,_=>by simp at h
 | t0 :: ts,kv0 :: kvs,.cons a r,0,t,kv,h1,h2=>by cases h1; cases h2; exact a
 | t0 :: ts,kv0 :: kvs,.cons a r,i + 1,t,kv,h1,h2=>fK r i t kv (by simpa using h1) (by simpa using h2)
structure LO (H H':Hp) (wd fd rd od:Addr) (loose:List Nat) (la:List (Nat × Addr)) (F:Nat->List Nat) (wv:Nat->Int) (ready order:List Nat):Prop where
 ch:Ch [] H H'
 w:H' wd=some (.dK (wD loose fun n=>.int (wv n)))
 f:Fed H H' fd la F
 r:H' rd=some (.lst (ready.map nV))
 o:H' od=some (.lst (order.map nV))
 hw:H wd=none
 hr:H rd=none
 ho:H od=none
 ro:rd≠od
 wf:wd≠fd
 ra:∀ p∈la,p.2≠rd
 oa:∀ p∈la,p.2≠od
theorem LO.setR{wd fd:Addr}{ready:List Nat} (s:LO H H' wd fd rd od loose la F wv ready order) (ready':List Nat):LO H (upd H' rd (.lst (ready'.map nV))) wd fd rd od loose la F wv ready' order :=
 ⟨Ch.own s.hr s.ch,aB (aI s.w s.r (by intro z; cases z)) s.w,s.f.put (aI s.f.at_ s.r (by intro z; cases z)) s.ra,af,aB s.ro.symm s.o,s.hw,s.hr,s.ho,s.ro,s.wf,s.ra,s.oa⟩
theorem LO.setO{wd fd:Addr}{order:List Nat} (s:LO H H' wd fd rd od loose la F wv ready order) (order':List Nat):LO H (upd H' od (.lst (order'.map nV))) wd fd rd od loose la F wv ready order' :=
 ⟨Ch.own s.ho s.ch,aB (aI s.w s.o (by intro z; cases z)) s.w,s.f.put (aI s.f.at_ s.o (by intro z; cases z)) s.oa,aB s.ro s.r,af,s.hw,s.hr,s.ho,s.ro,s.wf,s.ra,s.oa⟩
theorem LO.setW{wd fd:Addr} (s:LO H H' wd fd rd od loose la F wv ready order) (hn:n∈loose) (v:Int):LO H (upd H' wd (.dK (putK (wD loose fun n=>.int (wv n)) (.inl (n:Int)) (.int v)))) wd fd rd od loose la F (fun m=>if m=n then v else wv m) ready order :=
 ⟨Ch.own s.hw s.ch,by rw [af,y3 _ hn]; congr 3; funext m; split <;> rfl,s.f.put s.wf.symm fun p hp=>aI (s.f.ls p hp).1 s.w (by intro z; cases z),aB (aI s.r s.w (by intro z; cases z)) s.r,aB (aI s.o s.w (by intro z; cases z)) s.o,s.hw,s.hr,s.ho,s.ro,s.wf,s.ra,s.oa⟩
theorem LO.congr{wd fd:Addr}{wv wv':Nat->Int} (s:LO H H' wd fd rd od loose la F wv ready order) (h:∀ n∈loose,wv n=wv' n):LO H H' wd fd rd od loose la F wv' ready order :=
 ⟨s.ch,by rw [s.w,pz fun n hn=>by rw [h n hn]],s.f,s.r,s.o,s.hw,s.hr,s.ho,s.ro,s.wf,s.ra,s.oa⟩
theorem Fed.rebase {H0:Hp}{fd:Addr} (s:Fed H0 H' fd la F) (c:Ch [] H H0):Fed H H' fd la F:=⟨s.at_,fun p hp=>⟨(s.ls p hp).1,chFree c (s.ls p hp).2⟩,s.n1,s.n2⟩
structure FC (H0 H':Hp) (l:List Nat) (ys:List V):Prop where
 ch:Ch [] H0 H'
 ex:∃ (ts:List Addr) (la:List (Nat × Addr)),ys=ts.map V.ref/\la.map (·.1)=l/\TsAt H' ts (laD la)/\(∀ p∈la,H' p.2=some (.lst [])/\H0 p.2=none)/\(la.map (·.2)).Nodup
structure WC (H0 H':Hp) (l:List Nat) (g:Nat->V) (ys:List V):Prop where
 ch:Ch [] H0 H'
 ex:∃ ts:List Addr,ys=ts.map V.ref/\TsAt H' ts (wD l g)
theorem pA (ls:Nat->List Nat) (o:Nat):wt ls [] o=(ls o).length:=by unfold wt; simp
theorem zb (loose:List Nat) (ls:Nat->List Nat) (nd:loose.Nodup):Kahn loose ls [] (loose.filter fun n=>decide ((ls n).length=0)):=by
 have wz:∀ o,wt ls [] o=(ls o).length:=pA ls;refine ⟨List.nodup_nil,nd.filter _,by simp,fun o ho=>⟨(Cb.mp ho).1,by simp⟩,by simp,fun o h1 _=>?_,fun i x h=>by simp at h⟩
 rw [wz,Cb];simp [h1]
theorem pC (bs:List Bk):(looseOf bs).Nodup:=List.nodup_range.filter _
theorem pD (h:n∈looseOf bs):n < bs.length:=by simpa using (Cb.mp h).1
theorem gI{n s:Nat} (h:s∈lsOf bs n) (ins:Nat) (ok:∀ b∈bs,b.ok ins bs.length):s∈looseOf bs:=by
 unfold lsOf at h
 split at h
 ·rename_i b e
  obtain ⟨r,hr,rfl⟩:=BQ.mp h;obtain ⟨h1,h2⟩:=Cb.mp hr;have h3:r.1=true/\loB bs r.2=true:=by simpa using h2
  have:=(ok b (BO e)).so r h1;unfold lim at this;rw [if_pos h3.1] at this;exact Cb.mpr ⟨by simpa using this,h3.2⟩
 ·simp at h
theorem pE (g:Nat->V) (h:l[i]?=some n):wD (l.take (i + 1)) g=wD (l.take i) g++[((Sum.inl (n:Int):Key),g n)]:=by
 unfold wD;rw [B0,h,BL];rfl
theorem pF{ins:Nat} (ok:∀ b∈bs,b.ok ins bs.length) (n:Nat):(lsOf bs n).length<=4:=by
 unfold lsOf
 split
 ·rename_i b e
  rw [BF];exact B7 (CO _ _) (ok b (BO e)).s4
 ·simp
theorem zc (pr:List (Nat × Nat)) (s:Nat):(fedOf pr s).length<=pr.length:=by unfold fedOf; rw [BF]; exact CO _ _
theorem pG {ls:Nat->List Nat} (h:∀ n,(ls n).length<=4):∀ l:List Nat,(prs ls l).length<=4 * l.length
 | []=>by simp [prs]
 | n :: l=>by
  have ih:=pG h l;have:=h n;unfold prs at ih ⊢;rw [List.flatMap_cons,BU,BF,Cm];omega
theorem zd (pr:List (Nat × Nat)) (s n:Nat):(fun m=>if m=s then fedOf pr m++[n] else fedOf pr m)=fedOf (pr++[(s,n)]):=by
 funext m
 rw [xT]
 by_cases e:m=s
 ·rw [if_pos e,if_pos e.symm]
 ·rw [if_neg e,if_neg (B1 e)]
theorem ze {ls:Nat->List Nat} (h:l[i]?=some n):prs ls (l.take (i + 1))=prs ls (l.take i)++(ls n).map (fun s=>(s,n)):=by
 unfold prs;rw [B0,h,List.flatMap_append];simp
section
variable {P:Program}{w:World}{K:PySem.W.Frag}{mg:Str->Option Value}{base:Heap}{f:Addr}{fd:FuncData}{k:Nat}
theorem av23:AF (defScope (top 23)) ["blocks", "loose", "wants", "fed", "number", "source", "ready", "order", "other"]:=⟨∅⟩
theorem gl23:AG (defScope (top 23)) ["enumerate", "dict", "loose_sources", "len"]:=⟨∅⟩
def jA:Scope:={ kind:=PySem.ScopeKind.function,names:=[ (PySem.Str.ofString ".0",PySem.NameKind.local),(PySem.Str.ofString "number",PySem.NameKind.local),(PySem.Str.ofString "block",PySem.NameKind.local)],isGenerator:=false,isCoroutine:=false,more:=[]:PySem.Scope }
theorem jB:CompOk jA (defScope (top 23)) (["number", "block"]:List Str) (["blocks", "loose", "wants", "fed", "number", "source", "ready", "order", "other"]:List Str) [] (["number", "block"]:List Str):=compOk rfl ∅ ∅ ∅ ∅ rfl ∅
theorem gJ:AK (relab jA (defScope (top 23))) ["number", "block"]:=⟨∅⟩
theorem pH:AV (relab jA (defScope (top 23))) ["number", "block"]:=⟨∅⟩
def gK:Scope:={ kind:=PySem.ScopeKind.function,names:=[ (PySem.Str.ofString ".0",PySem.NameKind.local),(PySem.Str.ofString "number",PySem.NameKind.local),(PySem.Str.ofString "len",PySem.NameKind.globalImplicit),(PySem.Str.ofString "loose_sources",PySem.NameKind.globalImplicit),(PySem.Str.ofString "blocks",PySem.NameKind.free)],isGenerator:=false,isCoroutine:=false,more:=[]:PySem.Scope }
theorem pJ:CompOk gK (defScope (top 23)) (["number"]:List Str) (["blocks", "loose", "wants", "fed", "number", "source", "ready", "order", "other"]:List Str) [0] (["number", "blocks"]:List Str):=compOk rfl ∅ ∅ ∅ ∅ rfl ∅
theorem pK:AK (relab gK (defScope (top 23))) ["number"]:=⟨∅⟩
theorem pL:AG (relab gK (defScope (top 23))) ["len", "loose_sources"]:=⟨∅⟩
theorem jC:AV (relab gK (defScope (top 23))) ["number", "blocks"]:=⟨∅⟩
def jD:Scope:={ kind:=PySem.ScopeKind.function,names:=[(PySem.Str.ofString ".0",PySem.NameKind.local),(PySem.Str.ofString "number",PySem.NameKind.local)],isGenerator:=false,isCoroutine:=false,more:=[]:PySem.Scope }
theorem pM:CompOk jD (defScope (top 23)) (["number"]:List Str) (["blocks", "loose", "wants", "fed", "number", "source", "ready", "order", "other"]:List Str) [] (["number"]:List Str):=compOk rfl ∅ ∅ ∅ ∅ rfl ∅
theorem pN:AK (relab jD (defScope (top 23))) ["number"]:=⟨∅⟩
theorem zf:AV (relab jD (defScope (top 23))) ["number"]:=⟨∅⟩
def jE:Scope:={ kind:=PySem.ScopeKind.function,names:=[ (PySem.Str.ofString ".0",PySem.NameKind.local),(PySem.Str.ofString "number",PySem.NameKind.local),(PySem.Str.ofString "wants",PySem.NameKind.free)],isGenerator:=false,isCoroutine:=false,more:=[]:PySem.Scope }
theorem pP:CompOk jE (defScope (top 23)) (["number"]:List Str) (["blocks", "loose", "wants", "fed", "number", "source", "ready", "order", "other"]:List Str) [2] (["number", "wants"]:List Str):=compOk rfl ∅ ∅ ∅ ∅ rfl ∅
theorem pQ:AK (relab jE (defScope (top 23))) ["number"]:=⟨∅⟩
theorem jF:AV (relab jE (defScope (top 23))) ["number", "wants"]:=⟨∅⟩
def spLO:Sp:=fun vs H Q _=>∃ (kd kd2:SK) (bl:Addr) (ins:Nat) (bs:List Bk) (ps:List Addr),vs=[.ref bl]/\SqX kd H bl (ps.map V.ref)/\BsAt kd2 H bs ps/\(∀ b∈bs,b.ok ins bs.length)/\bs.length<=64 /\
 ∀ p order H',Ch [] H H'->H p=none->H' p=some (.lst (order.map nV))->Kahn (looseOf bs) (lsOf bs) order []->Q (.ref p) H'
theorem scLO:FnScope ["blocks", "loose", "wants", "fed", "number", "source", "ready", "order", "other"] ["blocks"] (defScope (top 23)):=⟨rfl,rfl,rfl,∅,rfl,∅,∅⟩
theorem zg (F:Fun K "loose_order" "loose_order" (top 23) f fd) (Dloose_sources:DefOk P w K mg base CX0 k "loose_sources" ["blocks", "number"] spLS) (z_enumerate:mg "enumerate" = none) (z_len:mg "len" = none) (z_dict:mg "dict" = none):FnOk P w K mg base CX0 (k + 1) f fd ["blocks"] spLO:=by
 have nd:=scLO.nd;refine F.ok scLO (fun vs H Q E h=>by obtain ⟨kd,kd2,bl,ins,bs,ps,rfl,_⟩:=h; rfl) (fun cdv A outer s H vs Q E hr h=>?_)
 obtain ⟨kd,kd2,bl,ins,bs,ps,rfl,hb,bt,ok,hl,q⟩:=h;have hu:=di hr;have lp:=BH bt;refine ⟨_,(Pr.h (ah (eA (i:=1) nd rfl (av23.l 1 rfl) rfl jB (fA kd (gl23.g 0 rfl) z_enumerate (aa (qv av23 0 rfl) ab ae)) (fun _ _ _ _ _=>(bP K 2 rfl rfl (aw (aj (i:=0) jB.nd rfl (Or.inl (gJ.k 0 rfl)) (Or.inr (gJ.k 0 rfl))) (aw (aj (i:=1) jB.nd rfl (Or.inl (gJ.k 1 rfl)) (Or.inr (gJ.k 1 rfl))) ba)))) (fun _ _ _ _ _=>(dG (ax br (ak (cY K rfl) (qw pH 1 rfl) ag (fun _ _=>rfl)) ag (nomark _)))) (fun _ _ _ _ _=>(qw pH 0 rfl)) rfl) (ah (ay (i:=2) nd rfl (av23.l 2 rfl) (aZ (gq rfl) (gl23.g 1 rfl) z_dict dP (aa (aR rfl pJ (bj (qv av23 1 rfl)) (fun _ _ _ _ _=>(aj (i:=0) pJ.nd rfl (Or.inl (pK.k 0 rfl)) (Or.inr (pK.k 0 rfl)))) (fun _ _ _ _ _=>aU) (fun _ _ _ _ _=>(aN (aa (qw jC 0 rfl) (aa (aq (xD K rfl) (pL.g 0 rfl) z_len BY (aa (ao Dloose_sources hr (pL.g 1 rfl) pass0 (aa (qw jC 1 rfl) (aa (qw jC 0 rfl) ab ae) ae) ph) ab bf) aK aL) ab bf) ae)))) ab bc) dQ dS)) (ah (ay (i:=3) nd rfl (av23.l 3 rfl) (aZ (gq rfl) (gl23.g 1 rfl) z_dict dP (aa (aR rfl pM (bj (qv av23 1 rfl)) (fun _ _ _ _ _=>(aj (i:=0) pM.nd rfl (Or.inl (pN.k 0 rfl)) (Or.inr (pN.k 0 rfl)))) (fun _ _ _ _ _=>aU) (fun _ _ _ _ _=>(aN (aa (qw zf 0 rfl) (aa (bZ ab) ab wF) ae)))) ab bc) dQ dS)) (ah (bK Ci rfl (bj (qv av23 1 rfl)) (aj (i:=4) nd rfl (av23.l 4 rfl)) (ai (bK Ci rfl (bj (ao Dloose_sources hr (gl23.g 2 rfl) pass0 (aa (qv av23 0 rfl) (aa (qv av23 4 rfl) ab ae) ae) ph)) (aj (i:=5) nd rfl (av23.l 5 rfl)) (ai (bp (bM Cr CG CH cy (ck hu (qv av23 3 rfl) (qv av23 5 rfl) (fun _ _=>rfl)) (aa (qv av23 4 rfl) ab ae))))))) (ah (eA (i:=6) nd rfl (av23.l 6 rfl) rfl pP (bj (qv av23 1 rfl)) (fun _ _ _ _ _=>(aj (i:=0) pP.nd rfl (Or.inl (pQ.k 0 rfl)) (Or.inr (pQ.k 0 rfl)))) (fun _ _ _ _ _=>(dG (ax br (ck hu (qw jF 1 rfl) (qw jF 0 rfl) (fun _ _=>rfl)) ag (nomark _)))) (fun _ _ _ _ _=>(qw jF 0 rfl)) rfl) (ah (ay (i:=7) nd rfl (av23.l 7 rfl) (bZ ab)) (ah (nv Ci (ax eP (aq aJ (gl23.g 3 rfl) z_len BY (aa (qv av23 6 rfl) ab ae) aK aL) ag (nomark _)) (ah (ay (i:=4) nd rfl (av23.l 4 rfl) (nZ (qv av23 6 rfl))) (ah (bp (bM Cr CG CH cy (qv av23 7 rfl) (aa (qv av23 4 rfl) ab ae))) (ai (bK Ci rfl (bj (ck hu (qv av23 3 rfl) (qv av23 4 rfl) (fun _ _=>rfl))) (aj (i:=8) nd rfl (av23.l 8 rfl)) (ah (jf hu (qv av23 2 rfl) (qv av23 8 rfl) (av dY (ck hu (qv av23 2 rfl) (qv av23 8 rfl) (fun _ _=>rfl)) ag) rfl) (ai (aC (ax br (ck hu (qv av23 2 rfl) (qv av23 8 rfl) (fun _ _=>rfl)) ag (nomark _)) (ai (bp (bM Cr CG CH cy (qv av23 6 rfl) (aa (qv av23 8 rfl) ab ae)))) aE)))))))) (ai (au (qv av23 7 rfl))))))))))),?_⟩
 (try dsimp only [cxOf])
 walk_at "rd";refine ⟨⟨_,hb.sq⟩,?_⟩;refine gm (ps.map V.ref) (fun i ys σ H'=>Ch [] H H'/\ys=((List.range i).filter (loB bs)).map nV/\∃ u v,σ=[u,v]) (by walk_at "sz") ⟨Ch.refl _ _,rfl,_,_,rfl⟩ ?_ ?_ ?_
 ·rintro i ys σ H' hi ⟨c,rfl,_⟩
  refine ⟨?_,(hb.ch c).sq⟩;rw [BF];exact B7 (CO _ _) (by rw [Cy]; exact BI _)
 ·rintro i ys σ H' z T hz ⟨c,rfl,u,v,rfl⟩ hT
  have hi:i < bs.length:=by have:=(BX.mp hz).1; rw [BF] at this; omega
  obtain ⟨p,b,e1,e2,⟨lpp,_,hp,_⟩⟩:=fH bt i hi;rw [e1] at hz;cases hz;have hp1:H' p=some (.tup [.ref lpp,.int b.bits,.int b.kept,.int b.first]):=c.get hp (by simp)
  have lo:=eF e2;rw [List.range_succ,Dy,BL];walk_at "rd";refine ite2 (fun hc=>?_) (fun hc=>?_)
  ·have hk:b.kept=0:=by simpa using hc
   rw [hk] at lo;exact ⟨_,rfl,c.trans (Ch.new hT _),by simp [lo]; rfl,_,_,rfl⟩
  ·have hk:b.kept≠0:=by simpa using hc
   exact ⟨c.trans (Ch.new hT _),by simp [lo,hk],_,_,rfl⟩
 rintro ys σ H' ⟨c0,rfl,_⟩;rw [BF,<- lp];show ∀ p,H' p=none->_;intro lo hlo;have nL:=pC bs;have lL:∀ n∈looseOf bs,n < bs.length:=fun n hn=>pD hn
 have lsL:∀ n s,s∈lsOf bs n->s∈looseOf bs:=fun n s h=>gI h ins ok
 have c1:Ch [] H (upd H' lo (.lst ((looseOf bs).map nV))):=c0.trans (Ch.new hlo _);have gl1:(upd H' lo (.lst ((looseOf bs).map nV))) lo=some (.lst ((looseOf bs).map nV)):=af;have lL64:(looseOf bs).length<=64:=by
  have:=CO (loB bs) (List.range bs.length);rw [Cy] at this;exact B7 this hl
 show tSeq _ _ _ _ (upd H' lo (.lst ((looseOf bs).map nV)));generalize upd H' lo (.lst ((looseOf bs).map nV))=H1 at c1 gl1 ⊢;generalize hLL:looseOf bs=loose at *;clear c0 hlo;have hb1:SqX kd H1 bl (ps.map V.ref):=hb.ch c1;have bt1:=dv c1 bt;walk_at "rd";refine bO (loose.map nV) (fun i ys σ H'=>WC H1 H' (loose.take i) (fun n=>.int ((lsOf bs n).length:Int)) ys/\∃ u,σ=[u,some (.ref bl)]) (by walk_at "sz") ⟨⟨Ch.refl _ _,[],rfl,.nil⟩,_,rfl⟩ ?_ ?_ ?_
 ·rintro i ys σ H' hi ⟨⟨c,ts,rfl,tt⟩,_⟩
  refine ⟨?_,SqL.of (c.get gl1 (by simp))⟩
  rw [BF,BH tt];unfold wD;rw [BF,B8];omega
 ·rintro i ys σ H' z hz ⟨⟨c,ts,rfl,tt⟩,u,rfl⟩
  rw [BN] at hz;obtain ⟨n,hn,rfl⟩:=B5.mp hz;have hb2:SqX kd H' bl (ps.map V.ref):=hb1.ch c;have bt2:=dv c bt1;have hn2:=lL n (BO hn);walk_at "rd";rename_i p2 H2 c2 f2 g2 T hT;refine ⟨⟨(c.trans c2).trans (Ch.new hT _),ts++[T],by simp,?_⟩,_,rfl⟩
  rw [pE _ hn];refine fJ ?_ (dI (c2.trans (Ch.new hT _)) tt);rw [af,BF];rfl
 rintro ys σ H2 ⟨⟨c2,ts,rfl,tt⟩,_⟩;rw [BF,B2] at tt;intro D hD;have cD:Ch [] H2 (upd H2 D (.lst (ts.map V.ref))):=Ch.new hD _;refine ⟨D,ts,wD loose (fun n=>.int ((lsOf bs n).length:Int)),rfl,af,BH tt,fK (dI cD tt),gH nL,?_,fun wd hwd=>?_⟩
 ·unfold wD; rw [BF,BR]; omega
 have cW:Ch [] (upd H2 D (.lst (ts.map V.ref))) (upd (upd H2 D (.lst (ts.map V.ref))) wd (.dK (wD loose (fun n=>.int ((lsOf bs n).length:Int))))):=Ch.new hwd _
 have c3:=(c2.trans cD).trans cW;have gw3:(upd (upd H2 D (.lst (ts.map V.ref))) wd (.dK (wD loose (fun n=>.int ((lsOf bs n).length:Int))))) wd=some (.dK (wD loose (fun n=>.int ((lsOf bs n).length:Int)))):=af
 have hw0:H wd=none:=chFree (c1.trans (c2.trans cD)) hwd;show tSeq _ _ _ _ (upd (upd H2 D (.lst (ts.map V.ref))) wd (.dK (wD loose (fun n=>.int ((lsOf bs n).length:Int)))))
 generalize upd (upd H2 D (.lst (ts.map V.ref))) wd (.dK (wD loose (fun n=>.int ((lsOf bs n).length:Int))))=H3 at c3 gw3 ⊢
 have gl3:H3 lo=some (.lst (loose.map nV)):=c3.get gl1 (by simp)
 have hb3:SqX kd H3 bl (ps.map V.ref):=hb1.ch c3;have bt3:=dv c3 bt1;have c03:=c1.trans c3;clear hwd cW cD hD tt c2 c3 gl1 hb1 bt1 c1;walk_at "rd";refine bO (loose.map nV) (fun i ys σ H'=>FC H3 H' (loose.take i) ys/\∃ u,σ=[u]) (by walk_at "sz") ⟨⟨Ch.refl _ _,[],[],rfl,rfl,.nil,by simp,by simp⟩,_,rfl⟩ ?_ ?_ ?_
 ·rintro i ys σ H' hi ⟨⟨c,ts,la,rfl,e1,tt,_⟩,_⟩
  refine ⟨?_,SqL.of (c.get gl3 (by simp))⟩
  have z:=Cs List.length e1;rw [BF,B8] at z;rw [BF,BH tt];unfold laD;rw [BF];omega
 ·rintro i ys σ H' z hz ⟨⟨c,ts,la,rfl,e1,tt,hla,nla⟩,u,rfl⟩
  rw [BN] at hz;obtain ⟨n,hn,rfl⟩:=B5.mp hz;walk_at "rd";rename_i q hq T hT;have cq:Ch [] H' (upd (upd H' q (.lst [])) T (.tup [nV n,.ref q])):=(Ch.new hq _).trans (Ch.new hT _);refine ⟨⟨c.trans cq,ts++[T],la++[(n,q)],by simp,?_,?_,fun p hp=>?_,?_⟩,_,rfl⟩
  ·rw [BL,e1,B0,hn]; rfl
  ·unfold laD
   rw [BL];refine fJ ?_ (dI cq tt);exact af
  ·rcases BP.mp hp with z | z
   ·exact ⟨cq.get (hla p z).1 (by simp),(hla p z).2⟩
   ·rw [B6.mp z]
    exact ⟨aA hT af,chFree c hq⟩
  ·rw [BL,C3]
   refine ⟨nla,by simp,fun x hx y hy e=>?_⟩
   obtain ⟨p,hp,rfl⟩:=BQ.mp hx;have:y=q:=by simpa using hy
   have h1:=(hla p hp).1;rw [e,this,hq] at h1;cases h1
 rintro ys σ H4 ⟨⟨c4,ts,la,rfl,e1,tt,hla,nla⟩,_⟩;rw [BF,B2] at e1;intro D hD;have cD:Ch [] H4 (upd H4 D (.lst (ts.map V.ref))):=Ch.new hD _;have eD:laD la=wD loose (fun n=>((la.map fun p=>(p.1,V.ref p.2)).lookup n).getD .non)\/True:=.inr trivial
 clear eD;have kD:((laD la).map (·.1)).Nodup:=by
  have e:(laD la).map (·.1)=(wD loose fun _=>V.non).map (·.1):=by
   unfold laD wD;rw [<- e1,CA,CA,CA];rfl
  rw [e];exact gH nL
 have lla:la.length=loose.length:=by rw [<- e1,BF]
 refine ⟨D,ts,laD la,rfl,af,BH tt,fK (dI cD tt),kD,?_,fun fdd hfd=>?_⟩
 ·unfold laD; rw [BF,BR]; omega
 have c5:Ch [] H3 (upd (upd H4 D (.lst (ts.map V.ref))) fdd (.dK (laD la))):=(c4.trans cD).trans (Ch.new hfd _);have F5:Fed H3 (upd (upd H4 D (.lst (ts.map V.ref))) fdd (.dK (laD la))) fdd la (fun _=>[]):=⟨af,fun p hp=>⟨aA hfd (cD.get (hla p hp).1 (by simp)),(hla p hp).2⟩,by rw [e1]; exact nL,nla⟩
 have f5:H3 fdd=none:=chFree (c4.trans cD) hfd;show tSeq _ _ _ _ (upd (upd H4 D (.lst (ts.map V.ref))) fdd (.dK (laD la)));generalize upd (upd H4 D (.lst (ts.map V.ref))) fdd (.dK (laD la))=H5 at c5 F5 ⊢;clear hfd cD hD tt c4 hla kD;have gl5:H5 lo=some (.lst (loose.map nV)):=c5.get gl3 (by simp)
 walk_at "rd";refine dM (xs:=loose.map nV) (fun i σ H'=>∃ u4 u5,σ=[some (.ref bl),some (.ref lo),some (.ref wd),some (.ref fdd),u4,u5,none,none,none]/\Ch [] H3 H'/\Fed H3 H' fdd la (fedOf (prs (lsOf bs) (loose.take i)))) ⟨_,_,rfl,c5,F5⟩ ?_ ?_ ?_
 ·rintro i σ H' hi ⟨_,_,rfl,c,_⟩
  exact SqL.of (c.get gl3 (by simp))
 ·rintro i z σ H' hz ⟨u4,u5,rfl,c,F⟩
  rw [BN] at hz;obtain ⟨n,hn,rfl⟩:=B5.mp hz;have hb2:SqX kd H' bl (ps.map V.ref):=hb3.ch c;have bt2:=dv c bt3;have hn2:=lL n (BO hn);walk_at "rd";rename_i sl H6 c6 f6 g6;have lpr:=pG (pF ok) (loose.take i);rw [B8] at lpr;rw [ze hn];generalize prs (lsOf bs) (loose.take i)=pr at F lpr ⊢;have lsn:=pF ok n;refine dM (xs:=(lsOf bs n).map nV) (fun j σ H'=>∃ u5,σ=[some (.ref bl),some (.ref lo),some (.ref wd),some (.ref fdd),some (nV n),u5,none,none,none]/\Ch [] H3 H'/\Fed H3 H' fdd la (fedOf (pr++((lsOf bs n).take j).map (fun s=>(s,n))))/\H' sl=some (.lst ((lsOf bs n).map nV))/\∀ p∈la,p.2≠sl) ⟨_,rfl,c.trans c6,by rw [List.take_zero,List.map_nil,C8]; exact F.ch c6,g6,fun p hp=>ar (F.ls p hp).1 f6⟩ ?_ ?_ ?_
  ·rintro j σ H' hj ⟨_,rfl,_,_,g,_⟩
   exact SqL.of g
  ·rintro j z σ H7 hz ⟨u5,rfl,c7,F7,g7,n7⟩
   rw [BN] at hz;obtain ⟨sr,hs,rfl⟩:=B5.mp hz;have et:(lsOf bs n).take (j + 1)=(lsOf bs n).take j++[sr]:=by rw [B0,hs]; rfl
   rw [et,BL,<- C6];have lq:((lsOf bs n).take j).length<=4:=by rw [B8]; omega
   have lpq:(pr++((lsOf bs n).take j).map (fun s=>(s,n))).length<=300:=by rw [BU,BF]; omega
   generalize pr++((lsOf bs n).take j).map (fun s=>(s,n))=pq at F7 lpq ⊢
   obtain ⟨a,hv,ha,hla⟩:=F7.of (n:=sr) (by rw [e1]; exact lsL n sr (BO hs))
   have hfd:=F7.at_;have lz:((fedOf pq sr).map nV).length < sizeLine:=by
    have:=zc pq sr;rw [BF,BR]; omega
   clear bt2 hb2 F;walk_at "rd";have F8:=F7.add (x:=n) ha;rw [zd] at F8;exact ⟨Ch.own (F7.ls _ ha).2 c7,F8,aB (n7 _ ha).symm g7,n7⟩
  ·rintro σ H' ⟨u5,rfl,c7,F7,_⟩
   rw [BF,B2] at F7;exact ⟨_,_,rfl,c7,F7⟩
 ·rintro σ H6 ⟨u4,u5,rfl,c6,F6⟩
  rw [BF,B2] at F6;have gl6:H6 lo=some (.lst (loose.map nV)):=c6.get gl3 (by simp)
  have gw6:H6 wd=some (.dK (wD loose (fun n=>.int ((lsOf bs n).length:Int)))):=c6.get gw3 (by simp)
  walk_at "rd";refine bO (loose.map nV) (fun i ys σ H'=>H'=H6/\ys=((loose.take i).filter fun n=>decide ((lsOf bs n).length=0)).map nV/\∃ u,σ=[u,some (.ref wd)]) (by walk_at "sz") ⟨rfl,rfl,_,rfl⟩ ?_ ?_ ?_
  ·rintro i ys σ H' hi ⟨rfl,rfl,_⟩
   refine ⟨?_,SqL.of gl6⟩;rw [BF];exact B7 (CO _ _) (Ds _ _)
  ·rintro i ys σ H' z hz ⟨rfl,rfl,u,rfl⟩
   rw [BN] at hz;obtain ⟨n,hn,rfl⟩:=B5.mp hz;have hv:=fI (g:=fun n=>.int ((lsOf bs n).length:Int)) (BO hn)
   rw [B0,hn,Dy,BL];walk_at "rd";refine ite2 (fun hc=>?_) (fun hc=>?_)
   ·have hk:(lsOf bs n).length=0:=by simpa using hc
    have ef:([n].filter fun n=>decide ((lsOf bs n).length=0))=[n]:=by rw [List.filter_cons,if_pos (Co hk)]; rfl
    exact ⟨_,rfl,rfl,by rw [show (some n).toList=[n] from rfl,ef]; rfl,_,rfl⟩
   ·have hk:¬ (lsOf bs n).length=0:=by simpa using hc
    have ef:([n].filter fun n=>decide ((lsOf bs n).length=0))=[]:=by rw [List.filter_cons,if_neg (by simpa using hk)]; rfl
    exact ⟨rfl,by rw [show (some n).toList=[n] from rfl,ef,List.map_nil,C8],_,rfl⟩
  rintro ys σ H' ⟨rfl,rfl,_⟩;rw [BF,B2];have k0:=zb loose (lsOf bs) nL;generalize hr0:(loose.filter fun n=>decide ((lsOf bs n).length=0))=r0 at k0 ⊢
  intro rd hrd;refine ⟨by rw [BR]; decide,fun od hod=>?_⟩
  have cR:Ch [] H' (upd (upd H' rd (.lst (r0.map nV))) od (.lst [])):=(Ch.new hrd _).trans (Ch.new hod _);have c06:=c03.trans c6;have L0:LO H (upd (upd H' rd (.lst (r0.map nV))) od (.lst [])) wd fdd rd od loose la (fedOf (prs (lsOf bs) loose)) (fun o=>(wt (lsOf bs) [] o:Int)) r0 [] :=
   LO.congr ⟨c06.trans cR,cR.get gw6 (by simp),(F6.rebase c03).ch cR,aA hod af,af,hw0,chFree c06 hrd,chFree (c06.trans (Ch.new hrd _)) hod,(fun z=>by rw [<- z,af] at hod; cases hod),ar gw3 f5,fun p hp=>ar (F6.ls p hp).1 hrd,fun p hp=>ar (aA hrd (F6.ls p hp).1) hod⟩ fun n _=>by rw [pA]
  have hod0:=L0.ho;have fb:=fun x=>xU (lsOf bs) nL x
  generalize hF:fedOf (prs (lsOf bs) loose)=F at L0 fb;show tWhile _ _ _ _ _;refine n9 (fun m σ H'=>∃ (u4 u5 u8:Option V) (ready order:List Nat),σ=[some (.ref bl),some (.ref lo),some (.ref wd),some (.ref fdd),u4,u5,some (.ref rd),some (.ref od),u8]/\Kahn loose (lsOf bs) order ready/\LO H H' wd fdd rd od loose la F (fun o=>(wt (lsOf bs) order o:Int)) ready order/\m=loose.length - order.length) ⟨_,_,_,_,_,_,rfl,k0,L0,rfl⟩ ?_ ?_
  ·clear L0 k0 hr0 r0 hrd hod cR gl6 gw6 F6 c6 c06 F5 c5 gl5 gl3 gw3 hb3 bt3 c03
   rintro m σ H1 ⟨u4,u5,u8,ready,order,rfl,kh,lo1,rfl⟩;have hrd1:=lo1.r;walk_at "rd";refine ite2 (fun hc=>?_) (fun hc=>?_)
   ·have hne:ready≠[]:=by rintro rfl; simp at hc
    obtain ⟨r',x,rfl⟩:∃ r' x,ready=r'++[x]:=⟨ready.dropLast,ready.getLast hne,(List.dropLast_concat_getLast hne).symm⟩;obtain ⟨xl,xo,xz,md⟩:=kh.pop;have ol:=kh.le;have hla:((r'++[x]).map nV)[((r'++[x]).map nV).length - 1]?=some (nV x):=by simp
    have edl:((r'++[x]).map nV).dropLast=r'.map nV:=by rw [BL]; exact List.dropLast_concat
    refine ⟨_,rfl,.inl ⟨rfl,_,SqL.of hrd1⟩,rd,_,_,rfl,rfl,hrd1,hla,?_⟩;rw [edl];have L1:=lo1.setR r';generalize upd H1 rd (.lst (r'.map nV))=H2 at L1 ⊢;have hod2:=L1.o;have lod:(order.map nV).length < sizeLine:=by rw [BF,BR]; omega
    have L2:LO H (upd H2 od (.lst (order.map nV++[nV x]))) wd fdd rd od loose la F (fun o=>(wt (lsOf bs) order o:Int)) r' (order++[x]):=by
     have:=L1.setO (order++[x]);rw [BL] at this;exact this
    obtain ⟨a,hv,ha,hga⟩:=L1.f.of (n:=x) (by rw [e1]; exact xl)
    have hfd2:=L1.f.at_;have nao:a≠od:=L1.oa _ ha;have nar:a≠rd:=L1.ra _ ha;have fbx:=fb x;clear hrd1 hla edl hc lo1 hne;walk_at "rd";refine dM (xs:=(F x).map nV) (fun j σ H'=>∃ (u8:Option V) (rj:List Nat),σ=[some (.ref bl),some (.ref lo),some (.ref wd),some (.ref fdd),some (nV x),u5,some (.ref rd),some (.ref od),u8]/\Mid loose (lsOf bs) order x ((F x).take j) rj/\LO H H' wd fdd rd od loose la F (fun o=>(wt (lsOf bs) order o:Int) - (((F x).take j).count o:Int)) rj (order++[x])) ⟨_,r',rfl,md,L2.congr fun n _=>by simp⟩ ?_ ?_ ?_
    ·rintro j σ H' hj ⟨_,_,rfl,_,l⟩
     exact SqL.of (l.f.ls _ ha).1
    ·rintro j z σ H3 hz ⟨u8,rj,rfl,mj,lj⟩
     rw [BN] at hz;obtain ⟨o,ho,rfl⟩:=B5.mp hz;obtain ⟨o1,o2,o3,o4,o5,o6⟩:=mj.step kh.oz xo xz fbx ho;have hw3:=lj.w;have hv3:=fI (g:=fun n=>.int ((wt (lsOf bs) order n:Int) - (((F x).take j).count n:Int))) o1
     have lw3:(wD loose fun n=>V.int ((wt (lsOf bs) order n:Int) - (((F x).take j).count n:Int))).length < sizeLine:=by unfold wD; rw [BF,BR]; omega
     have hv4:valV (putK (wD loose fun n=>V.int ((wt (lsOf bs) order n:Int) - (((F x).take j).count n:Int))) (.inl (o:Int)) (.int ((wt (lsOf bs) order o:Int) - (((F x).take j).count o:Int) - 1))) (.inl (o:Int))=some (.int ((wt (lsOf bs) order o:Int) - (((F x).take j).count o:Int) - 1)):=by rw [vY,if_pos rfl]
     have hrd3:=lj.r;have lrj:(rj.map nV).length < sizeLine:=by have:=mj.le; rw [BF,BR]; omega
     have lW:=(lj.setW o1 ((wt (lsOf bs) order o:Int) - (((F x).take j).count o:Int) - 1)).congr (wv':=fun o=>(wt (lsOf bs) order o:Int) - (((F x).take (j + 1)).count o:Int)) fun n _=>by
      by_cases e:n=o
      ·rw [if_pos e,e,o2]; omega
      ·rw [if_neg e,o4 n e]
     clear hod2 hfd2 hga L1 L2 hv;walk_at "rd";refine ite2 (fun hc=>?_) (fun hc=>?_)
     ·have hc:(wt (lsOf bs) order o:Int) - (((F x).take j).count o:Int) - 1=0:=by simpa using hc
      walk_at "rd";have:=lW.setR (rj++[o]);rw [BL] at this;exact ⟨o5 (by omega),this⟩
     ·have hc:(wt (lsOf bs) order o:Int) - (((F x).take j).count o:Int) - 1≠0:=by simpa using hc
      walk_at "rd";exact ⟨o6 (by omega),lW⟩
    ·rintro σ H3 ⟨u8,rj,rfl,mj,lj⟩
     rw [BF,B2] at mj lj;have kh2:=Mid.done kh.tp kh.no kh.ol kh.oz xl xo xz fbx mj;have le2:=kh2.le;rw [BU,Cn] at le2;refine ⟨_,?_,_,_,_,rj,order++[x],rfl,kh2,lj.congr fun n hn=>?_,rfl⟩
     ·rw [BU,Cn]; omega
     ·have z1:=fD (ls:=lsOf bs) xo n
      have z2:=fbx.c n hn;omega
   ·have hnil:ready=[]:=by
     cases ready with
     | nil=>rfl
     | cons _ _=>exact absurd hc (by simp)
    subst hnil;walk_at "rd";exact q od order _ lo1.ch lo1.ho lo1.o kh
  ·rintro σ H Q Q' hq ⟨v,h1,p,ys,h2,h3,i,j,h4,h5,k,h6,h7⟩
   exact ⟨v,h1,p,ys,h2,h3,i,j,h4,h5,k,h6,hq _ _ h7⟩
theorem gl24:AG (defScope (top 24)) ["len", "loose_order"]:=⟨∅⟩
theorem av24:AF (defScope (top 24)) ["blocks"]:=⟨∅⟩
def jG:Scope:={ kind:=PySem.ScopeKind.function,names:=[(PySem.Str.ofString ".0",PySem.NameKind.local),(PySem.Str.ofString "block",PySem.NameKind.local)],isGenerator:=false,isCoroutine:=false,more:=[]:PySem.Scope }
theorem pR:CompOk jG (defScope (top 24)) (["block"]:List Str) (["blocks"]:List Str) [] (["block"]:List Str):=compOk rfl ∅ ∅ ∅ ∅ rfl ∅
theorem pS:AK (relab jG (defScope (top 24))) ["block"]:=⟨∅⟩
theorem pT:AV (relab jG (defScope (top 24))) ["block"]:=⟨∅⟩
def spRing:Sp:=fun vs H Q _=>∃ (kd kd2:SK) (bl:Addr) (ins:Nat) (bs:List Bk) (ps:List Addr),vs=[.ref bl]/\SqX kd H bl (ps.map V.ref)/\BsAt kd2 H bs ps/\(∀ b∈bs,b.ok ins bs.length)/\bs.length<=64 /\
 (Acy (looseOf bs) (lsOf bs)->∀ H',Ch [] H H'->Q (.bl false) H')/\(¬ Acy (looseOf bs) (lsOf bs)->∀ H',Ch [] H H'->Q (.bl true) H')
theorem scRing:FnScope ["blocks"] ["blocks"] (defScope (top 24)):=⟨rfl,rfl,rfl,∅,rfl,∅,∅⟩
theorem zh (F:Fun K "has_ring" "has_ring" (top 24) f fd) (Dloose_order:DefOk P w K mg base CX0 k "loose_order" ["blocks"] spLO) (z_len:mg "len" = none):FnOk P w K mg base CX0 (k + 1) f fd ["blocks"] spRing:=by
 have nd:=scRing.nd;refine F.ok scRing (fun vs H Q E h=>by obtain ⟨kd,kd2,bl,ins,bs,ps,rfl,_⟩:=h; rfl) (fun cdv A outer s H vs Q E hr h=>?_)
 obtain ⟨kd,kd2,bl,ins,bs,ps,rfl,hb,bt,ok,hl,q1,q2⟩:=h;have lp:=BH bt;refine ⟨_,(Pr.h (ai (au (cS cx (aq aJ (gl24.g 0 rfl) z_len BY (aa (ao Dloose_order hr (gl24.g 1 rfl) pass0 (aa (qv av24 0 rfl) ab ae) pj) ab bf) aK aL) (aq aJ (gl24.g 0 rfl) z_len BY (aa (aR rfl pR (eW K rfl kd (qv av24 0 rfl)) (fun _ _ _ _ _=>(aj (i:=0) pR.nd rfl (Or.inl (pS.k 0 rfl)) (Or.inr (pS.k 0 rfl)))) (fun _ _ _ _ _=>(dG (ax br (ak (cY K rfl) (qw pT 0 rfl) ag (fun _ _=>rfl)) ag (nomark _)))) (fun _ _ _ _ _=>(qw pT 0 rfl))) ab bc) aK aL) (nomark _))))),?_⟩
 (try dsimp only [cxOf])
 walk_at "rd";rename_i od order H1 c1 f1 g1 kh;have hb1:SqX kd H1 bl (ps.map V.ref):=hb.ch c1;refine ⟨⟨_,hb1.sq⟩,?_⟩;refine fB (ps.map V.ref) (fun i ys σ H'=>H'=H1/\ys.length=((List.range i).filter (loB bs)).length/\∃ u,σ=[u]) (by walk_at "sz") ⟨rfl,rfl,_,rfl⟩ ?_ ?_ ?_
 ·rintro i ys σ H' hi ⟨rfl,e,_⟩
  refine ⟨?_,hb1.sq⟩;rw [e];exact B7 (CO _ _) (by rw [Cy]; exact BI _)
 ·rintro i ys σ H' z hz ⟨rfl,e,u,rfl⟩
  have hi:i < bs.length:=by have:=(BX.mp hz).1; rw [BF] at this; omega
  obtain ⟨p,b,e1,e2,⟨lpp,_,hp,_⟩⟩:=fH bt i hi;rw [e1] at hz;cases hz;have hp1:H' p=some (.tup [.ref lpp,.int b.bits,.int b.kept,.int b.first]):=c1.get hp (by simp)
  have lo:=eF e2;rw [List.range_succ,Dy,BU];walk_at "rd";refine ite2 (fun hc=>?_) (fun hc=>?_)
  ·have hk:b.kept=0:=by simpa using hc
   rw [hk] at lo;exact ⟨_,rfl,rfl,by simp [lo,e],_,rfl⟩
  ·have hk:b.kept≠0:=by simpa using hc
   exact ⟨rfl,by simp [lo,hk,e],_,rfl⟩
 ·rintro ys σ H' ⟨rfl,e,_⟩
  intro D hD;have gD:(upd H' D (.lst ys)) D=some (.lst ys):=af;have e:ys.length=(looseOf bs).length:=by rw [e,BF,<- lp]; rfl
  have lsl:∀ n s,s∈lsOf bs n->s∈looseOf bs:=fun n s h=>gI h ins ok
  walk_at "rd"
  by_cases ac:Acy (looseOf bs) (lsOf bs)
  ·have el:(order.map nV).length=ys.length:=by rw [e,BF]; exact kh.len (pC bs) ac
   rw [el,Co rfl];exact q1 ac _ (c1.trans (Ch.new hD _))
  ·rw [Cv (fun z=>ac (kh.acy (by rw [BF,e] at z; have z:(order.length:Int)=((looseOf bs).length:Int):=(by simpa using z); omega) lsl))]
   exact q2 ac _ (c1.trans (Ch.new hD _))
end
end

section
structure AskAt (H:Hp) (bl ol:Addr) (bs:List Bk) (os:List Src):Prop where
 b:∃ ps,H bl=some (.lst (ps.map V.ref))/\Paired (BkAt .list H) bs ps
 o:∃ ps,H ol=some (.lst (ps.map V.ref))/\WsAt H (os.map srcK) ps
theorem AskAt.ch {H:Hp}{os:List Src} (s:AskAt H bl ol bs os) (c:Ch [] H H'):AskAt H' bl ol bs os :=
 ⟨s.b.imp fun _ h=>⟨c.get h.1 (by simp),dv c h.2⟩,s.o.imp fun _ h=>⟨c.get h.1 (by simp),WsAt.tu (Tu.same c) h.2⟩⟩
structure AOk (ins:Nat) (bs:List Bk) (os:List Src):Prop where
 b:∀ b∈bs,b.ok ins bs.length
 o:∀ s∈os,s.2 < lim ins bs.length s.1
 a:Acy (looseOf bs) (lsOf bs)
 lb:bs.length<=40
 lo:os.length<=40
def fldsP (ins:Nat) (bt ot:Addr):List (Str × V):=[("ins",.int (ins:Int)),("blocks",.ref bt),("outs",.ref ot)]
structure PkT (H:Hp) (bt ot:Addr) (bs:List Bk) (os:List Src):Prop where
 b:∃ ps,H bt=some (.tup (ps.map V.ref))/\BsAt .tuple H bs ps
 o:∃ ps,H ot=some (.tup (ps.map V.ref))/\WsAt H (os.map srcK) ps
theorem PkT.tu {H:Hp} (k:Tu H H'){os:List Src} (s:PkT H bt ot bs os):PkT H' bt ot bs os :=
 ⟨s.b.imp fun _ h=>⟨k _ _ h.1,aF (fun _ _ e=>BkAt.tu k e) h.2⟩,s.o.imp fun _ h=>⟨k _ _ h.1,WsAt.tu k h.2⟩⟩
theorem jH {H:Hp}{y C d:Addr}{fs:List (Str × V)} (h:H a=some (.lst xs)) (c:Ch [y] H H') (hy:H y=some (.ins C d fs)):H' a=some (.lst xs):=c.get h (by simpa using aI h hy (by intro z; cases z))
theorem AskAt.ob {H:Hp}{y C d:Addr}{fs:List (Str × V)}{os:List Src} (s:AskAt H bl ol bs os) (c:Ch [y] H H') (hy:H y=some (.ins C d fs)):AskAt H' bl ol bs os:=by
 have k:Tu H H':=Tu.ch c hy (fun _ z=>by cases z)
 exact ⟨s.b.imp fun _ h=>⟨jH h.1 c hy,aF (fun b p ⟨lp,ps,h,q,w⟩=>⟨lp,ps,k _ _ h,jH q c hy,WsAt.tu k w⟩) h.2⟩,s.o.imp fun _ h=>⟨jH h.1 c hy,WsAt.tu k h.2⟩⟩
structure BC (H0 H':Hp) (ts:List Bk) (ys:List V):Prop where
 c:Ch [] H0 H'
 b:∃ us:List Addr,ys=us.map V.ref/\BsAt .tuple H' ts us
section
variable {P:Program}{w:World}{K:PySem.W.Frag}{mg:Str->Option Value}{base:Heap}{f:Addr}{fd:FuncData}{k:Nat}
theorem zi:Nd "is_block" := ∅
theorem zj:Nd "has_ring" := ∅
theorem zk:Nd "ask_pack" := ∅
theorem av25:AF (defScope (top 25)) ["ins", "blocks", "outs", "counts"]:=⟨∅⟩
theorem gl25:AG (defScope (top 25)) ["is_whole", "is_listed", "len", "all", "has_ring"]:=⟨∅⟩
def gM:Scope:={ kind:=PySem.ScopeKind.function,names:=[ (PySem.Str.ofString ".0",PySem.NameKind.local),(PySem.Str.ofString "block",PySem.NameKind.local),(PySem.Str.ofString "is_block",PySem.NameKind.globalImplicit),(PySem.Str.ofString "counts",PySem.NameKind.free)],isGenerator:=false,isCoroutine:=false,more:=[]:PySem.Scope }
theorem pU:CompOk gM (defScope (top 25)) (["block"]:List Str) (["ins", "blocks", "outs", "counts"]:List Str) [3] (["block", "counts"]:List Str):=compOk rfl ∅ ∅ ∅ ∅ rfl ∅
theorem pV:AK (relab gM (defScope (top 25))) ["block"]:=⟨∅⟩
theorem zm:AG (relab gM (defScope (top 25))) ["is_block"]:=⟨∅⟩
theorem pW:AV (relab gM (defScope (top 25))) ["block", "counts"]:=⟨∅⟩
def gN:Scope:={ kind:=PySem.ScopeKind.function,names:=[ (PySem.Str.ofString ".0",PySem.NameKind.local),(PySem.Str.ofString "out",PySem.NameKind.local),(PySem.Str.ofString "is_place",PySem.NameKind.globalImplicit),(PySem.Str.ofString "counts",PySem.NameKind.free)],isGenerator:=false,isCoroutine:=false,more:=[]:PySem.Scope }
theorem pX:CompOk gN (defScope (top 25)) (["out"]:List Str) (["ins", "blocks", "outs", "counts"]:List Str) [3] (["out", "counts"]:List Str):=compOk rfl ∅ ∅ ∅ ∅ rfl ∅
theorem pY:AK (relab gN (defScope (top 25))) ["out"]:=⟨∅⟩
theorem zo:AG (relab gN (defScope (top 25))) ["is_place"]:=⟨∅⟩
theorem pZ:AV (relab gN (defScope (top 25))) ["out", "counts"]:=⟨∅⟩
def spAskP:Sp:=fun vs H Q _=>∃ (bl ol:Addr) (ins:Nat) (bs:List Bk) (os:List Src),vs=[.int (ins:Int),.ref bl,.ref ol]/\AskAt H bl ol bs os/\AOk ins bs os/\∀ H',Ch [] H H'->Q .non H'
theorem scAsk:FnScope ["ins", "blocks", "outs", "counts"] ["ins", "blocks", "outs"] (defScope (top 25)):=⟨rfl,rfl,rfl,∅,rfl,∅,∅⟩
theorem zp (F:Fun K "ask_pack" "ask_pack" (top 25) f fd) (Dis_whole:DefOk P w K mg base CX0 k "is_whole" ["thing"] spWhole) (Dis_listed:DefOk P w K mg base CX0 k "is_listed" ["thing"] spListed) (Dis_block:DefOk P w K mg base CX0 k "is_block" ["thing", "counts"] spBlock) (Dis_place:DefOk P w K mg base CX0 k "is_place" ["thing", "counts"] spPlace) (Dhas_ring:DefOk P w K mg base CX0 k "has_ring" ["blocks"] spRing) (z_len:mg "len" = none) (z_all:mg "all" = none):FnOk P w K mg base CX0 (k + 1) f fd ["ins", "blocks", "outs"] spAskP:=by
 have nd:=scAsk.nd;refine F.ok scAsk (fun vs H Q E h=>by obtain ⟨bl,ol,ins,bs,os,rfl,_⟩:=h; rfl) (fun cdv A outer s H vs Q E hr h=>?_)
 obtain ⟨bl,ol,ins,bs,os,rfl,⟨⟨bps,hb,bb⟩,⟨ops,ho,oo⟩⟩,aok,q⟩:=h;have hu:=di hr;have lb:=BH bb;have lo:=BH oo;rw [BF] at lo;have b40:=aok.lb;have o40:=aok.lo;have x1:SqX .list H bl (bps.map V.ref):=hb;have x2:∀ {H'},Ch [] H H'->SqX .list H' ol (ops.map V.ref):=fun c=>c.get ho (by simp)
 refine ⟨_,(Pr.h (ah (aC (bz (bg (aX (aO (ao Dis_whole hr (gl25.g 0 rfl) pass0 (aa (qv av25 0 rfl) ab ae) jt))) (bJ (ax eO (qv av25 0 rfl) ag (nomark _))))) (ai cO) aE) (ah (aC (bz (bg (aX (aO (ao Dis_listed hr (gl25.g 1 rfl) pass0 (aa (qv av25 1 rfl) ab ae) dH))) (bJ (aX (aO (ao Dis_listed hr (gl25.g 1 rfl) pass0 (aa (qv av25 2 rfl) ab ae) dH)))))) (ai cO) aE) (ah (ay (i:=3) nd rfl (av25.l 3 rfl) (eV (bU aM (qv av25 0 rfl) (bU aM (aq aJ (gl25.g 2 rfl) z_len BY (aa (qv av25 1 rfl) ab ae) aK aL) eU)) rfl rfl (by intro z; cases z) (by decide))) (ah (aC (aX (aO (aq (cX rfl) (gl25.g 3 rfl) z_all cZ (aa (aR rfl pU (bj (qv av25 1 rfl)) (fun _ _ _ _ _=>(aj (i:=0) pU.nd rfl (Or.inl (pV.k 0 rfl)) (Or.inr (pV.k 0 rfl)))) (fun _ _ _ _ _=>aU) (fun _ _ _ _ _=>(ao Dis_block hr (zm.g 0 rfl) pass0 (aa (qw pW 0 rfl) (aa (qw pW 1 rfl) ab ae) ae) zi))) ab bc) dc de))) (ai cO) aE) (ah (aC (aX (aO (aq (cX rfl) (gl25.g 3 rfl) z_all cZ (aa (aR rfl pX (bj (qv av25 2 rfl)) (fun _ _ _ _ _=>(aj (i:=0) pX.nd rfl (Or.inl (pY.k 0 rfl)) (Or.inr (pY.k 0 rfl)))) (fun _ _ _ _ _=>aU) (fun _ _ _ _ _=>(ao Dis_place hr (zo.g 0 rfl) pass0 (aa (qw pZ 0 rfl) (aa (qw pZ 1 rfl) ab ae) ae) fG))) ab bc) dc de))) (ai cO) aE) (ai (aC (aO (ao Dhas_ring hr (gl25.g 4 rfl) pass0 (aa (qv av25 1 rfl) ab ae) zj)) (ai cO) aE)))))))),?_⟩
 (try dsimp only [cxOf])
 walk_at "rd";rename_i H1 c1;refine ⟨x2 c1,fun H3 c3=>?_⟩
 have c03:=c1.trans c3;clear c1 c3 x1 x2;have hb3:=c03.get hb (by simp)
 walk_at "rd";rename_i cd hcd;refine ⟨(show _=List.map (fun kv=>(kV kv.1,kv.2)) (cntK ins bs.length) from by rw [BF,<- lb]; rfl),(by show (2:Nat)<=15; decide),?_⟩
 rw [show mergeK [] (cntK ins bs.length)=cntK ins bs.length from rfl];have c04:Ch [] H (upd (upd H3 cd (.dK [])) cd (.dK (cntK ins bs.length))):=c03.trans (Ch.own hcd (Ch.new hcd _));have g4:(upd (upd H3 cd (.dK [])) cd (.dK (cntK ins bs.length))) cd=some (.dK (cntK ins bs.length)):=af;generalize upd (upd H3 cd (.dK [])) cd (.dK (cntK ins bs.length))=H4 at g4 c04 ⊢;clear hcd c03 hb3;have hb4:=c04.get hb (by simp)
 have bb4:=dv c04 bb;walk_at "rd";refine bO (bps.map V.ref) (fun i ys σ H'=>Ch [] H4 H'/\ys=List.replicate i (V.bl true)/\∃ u,σ=[u,some (.ref cd)]) (by walk_at "sz") ⟨Ch.refl _ _,rfl,_,rfl⟩ ?_ ?_ ?_
 ·rintro i ys σ H' hi ⟨c,rfl,_⟩
  exact ⟨by simp,SqL.of (c.get hb4 (by simp))⟩
 ·rintro i ys σ H' z hz ⟨c,rfl,u,rfl⟩
  obtain ⟨p,t,rfl,et,tp⟩:=bq bb4 i z hz;have tp:=tp.ch c;have g5:=c.get g4 (by simp)
  have okt:=aok.b t (BO et);walk_at "rd";exact ⟨by rw [<- C7],_,rfl⟩
 rintro ys σ H5 ⟨c5,rfl,_⟩;intro D hD;refine ⟨D,List.replicate (bps.map V.ref).length true,rfl,by rw [af,List.map_replicate],?_⟩
 rw [show (List.replicate (bps.map V.ref).length true).all id=true from by simp [List.all_replicate]]
 have c06:Ch [] H (upd H5 D (.lst (List.replicate (bps.map V.ref).length (V.bl true)))):=(c04.trans c5).trans (Ch.new hD _);have g6:(upd H5 D (.lst (List.replicate (bps.map V.ref).length (V.bl true)))) cd=some (.dK (cntK ins bs.length)):=aA hD (c5.get g4 (by simp))
 generalize upd H5 D (.lst (List.replicate (bps.map V.ref).length (V.bl true)))=H6 at c06 g6 ⊢;clear c04 c5 g4 hb4 hD bb4;have ho6:=c06.get ho (by simp)
 have oo6:=WsAt.tu (Tu.same c06) oo;walk_at "rd";refine bO (ops.map V.ref) (fun i ys σ H'=>H'=H6/\ys=List.replicate i (V.bl true)/\∃ u,σ=[u,some (.ref cd)]) (by walk_at "sz") ⟨rfl,rfl,_,rfl⟩ ?_ ?_ ?_
 ·rintro i ys σ H' hi ⟨rfl,rfl,_⟩
  exact ⟨by simp,SqL.of ho6⟩
 ·rintro i ys σ H' z hz ⟨rfl,rfl,u,rfl⟩
  obtain ⟨p,t,rfl,et,tp⟩:=bq oo6 i z hz;obtain ⟨w,n,m,rfl,k1,k2,k3⟩:=pf aok.o t (BO et);have tp:H' p=some (.tup [.str w,.int n]):=tp;walk_at "rd";exact ⟨by rw [<- C7],_,rfl⟩
 rintro ys σ H' ⟨rfl,rfl,_⟩;intro D hD;refine ⟨D,List.replicate (ops.map V.ref).length true,rfl,by rw [af,List.map_replicate],?_⟩
 rw [show (List.replicate (ops.map V.ref).length true).all id=true from by simp [List.all_replicate]]
 have c07:=c06.trans (Ch.new hD (.lst (List.replicate (ops.map V.ref).length (V.bl true))));have x7:SqX .list (upd H' D (.lst (List.replicate (ops.map V.ref).length (V.bl true)))) bl (bps.map V.ref):=c07.get hb (by simp)
 walk_at "rd";refine ⟨dv c07 bb,aok.b,by omega,fun _ H8 c8=>?_,fun na=>absurd aok.a na⟩
 walk_at "rd";exact q _ (c07.trans c8)
theorem gl26m0:AG (defScope (inClass (top 26) 0)) ["ask_pack", "tuple"]:=⟨∅⟩
theorem av26m0:AF (defScope (inClass (top 26) 0)) ["self", "ins", "blocks", "outs"]:=⟨∅⟩
def gO:Scope:={ kind:=PySem.ScopeKind.function,names:=[ (PySem.Str.ofString ".0",PySem.NameKind.local),(PySem.Str.ofString "sources",PySem.NameKind.local),(PySem.Str.ofString "bits",PySem.NameKind.local),(PySem.Str.ofString "kept",PySem.NameKind.local),(PySem.Str.ofString "first",PySem.NameKind.local),(PySem.Str.ofString "tuple",PySem.NameKind.globalImplicit)],isGenerator:=false,isCoroutine:=false,more:=[]:PySem.Scope }
theorem fL:CompOk gO (defScope (inClass (top 26) 0)) (["sources", "bits", "kept", "first"]:List Str) (["self", "ins", "blocks", "outs"]:List Str) [] (["sources", "bits", "kept", "first"]:List Str):=compOk rfl ∅ ∅ ∅ ∅ rfl ∅
theorem dU:AK (relab gO (defScope (inClass (top 26) 0))) ["sources", "bits", "kept", "first"]:=⟨∅⟩
theorem gP:AV (relab gO (defScope (inClass (top 26) 0))) ["sources", "bits", "kept", "first"]:=⟨∅⟩
theorem zq:AG (relab gO (defScope (inClass (top 26) 0))) ["tuple"]:=⟨∅⟩
def spPack (C:Addr):Sp:=fun vs H Q _=>∃ (x dx bl ol:Addr) (ins:Nat) (bs:List Bk) (os:List Src),vs=[.ref x,.int (ins:Int),.ref bl,.ref ol]/\H x=some (.ins C dx [])/\AskAt H bl ol bs os/\AOk ins bs os/\∀ bt ot H',Ch [x] H H'->H' x=some (.ins C dx (fldsP ins bt ot))->PkT H' bt ot bs os->Q .non H'
theorem scPack:FnScope ["self", "ins", "blocks", "outs"] ["self", "ins", "blocks", "outs"] (defScope (inClass (top 26) 0)):=⟨rfl,rfl,rfl,∅,rfl,∅,∅⟩
theorem zr (F:Fun K "__init__" "Pack.__init__" (inClass (top 26) 0) f fd) (cl:Cls K C) (nI:NoAttr K C "ins") (nB:NoAttr K C "blocks") (nO:NoAttr K C "outs") (Dask_pack:DefOk P w K mg base CX0 k "ask_pack" ["ins", "blocks", "outs"] spAskP) (z_tuple:mg "tuple" = none):FnOk P w K mg base CX0 (k + 1) f fd ["self", "ins", "blocks", "outs"] (spPack C):=by
 have nd:=scPack.nd;refine F.ok scPack (fun vs H Q E h=>by obtain ⟨x,dx,bl,ol,ins,bs,os,rfl,_⟩:=h; rfl) (fun cdv A outer s H vs Q E hr h=>?_)
 obtain ⟨x,dx,bl,ol,ins,bs,os,rfl,hx,dr,aok,q⟩:=h;refine ⟨_,(Pr.h (ah (bp (ao Dask_pack hr (gl26m0.g 0 rfl) pass0 (aa (qv av26m0 1 rfl) (aa (qv av26m0 2 rfl) (aa (qv av26m0 3 rfl) ab ae) ae) ae) zk)) (ah (bL (qv av26m0 0 rfl) (qv av26m0 1 rfl) rfl) (ah (bL (qv av26m0 0 rfl) (aZ cQ (gl26m0.g 1 rfl) z_tuple bD (aa (aR rfl fL (bj (qv av26m0 2 rfl)) (fun _ _ _ _ _=>(bP K 4 rfl rfl (aw (aj (i:=0) fL.nd rfl (Or.inl (dU.k 0 rfl)) (Or.inr (dU.k 0 rfl))) (aw (aj (i:=1) fL.nd rfl (Or.inl (dU.k 1 rfl)) (Or.inr (dU.k 1 rfl))) (aw (aj (i:=2) fL.nd rfl (Or.inl (dU.k 2 rfl)) (Or.inr (dU.k 2 rfl))) (aw (aj (i:=3) fL.nd rfl (Or.inl (dU.k 3 rfl)) (Or.inr (dU.k 3 rfl))) ba)))))) (fun _ _ _ _ _=>aU) (fun _ _ _ _ _=>(aN (aa (aZ (jg K rfl) (zq.g 0 rfl) z_tuple bD (aa (qw gP 0 rfl) ab ae) bE bF) (aa (qw gP 1 rfl) (aa (qw gP 2 rfl) (aa (qw gP 3 rfl) ab ae) ae) ae) bf)))) ab bc) bE bF) rfl) (ai (bL (qv av26m0 0 rfl) (aZ cQ (gl26m0.g 1 rfl) z_tuple bD (aa (qv av26m0 3 rfl) ab ae) bE bF) rfl)))))),?_⟩
 (try dsimp only [cxOf])
 walk_at "rd";rename_i H1 c1;have hx1:H1 x=some (.ins C dx []):=c1.get hx (by simp)
 have dr2:=(dr.ch c1).ob (Ch.put (o:=HO.ins C dx (putF "ins" (.int (ins:Int)) []))) hx1;have hx2:(upd H1 x (.ins C dx (putF "ins" (.int (ins:Int)) []))) x=some (.ins C dx (putF "ins" (.int (ins:Int)) [])):=af;have c2:Ch [x] H (upd H1 x (.ins C dx (putF "ins" (.int (ins:Int)) []))):=c1.wk.trans Ch.put;obtain ⟨tps,ht,tt⟩:=dr2.b;refine ⟨⟨_,SqL.of ht⟩,?_⟩;generalize upd H1 x (.ins C dx (putF "ins" (.int (ins:Int)) []))=H2 at hx2 c2 dr2 ht tt ⊢;clear hx1 c1 dr;have lt:=BH tt;have t40:=aok.lb;refine bO (tps.map V.ref) (fun i ys σ H'=>BC H2 H' (bs.take i) ys/\∃ u0 u1 u2 u3,σ=[u0,u1,u2,u3]) (by walk_at "sz") ⟨⟨Ch.refl _ _,[],rfl,.nil⟩,_,_,_,_,rfl⟩ ?_ ?_ ?_
 ·rintro i ys σ H' hi ⟨⟨c,us,rfl,uu⟩,_⟩
  refine ⟨?_,SqL.of (c.get ht (by simp))⟩
  rw [BF,<- BH uu,B8];omega
 ·rintro i ys σ H' z hz ⟨⟨c,us,rfl,uu⟩,u0,u1,u2,u3,rfl⟩
  obtain ⟨p,t,rfl,et,tp⟩:=bq tt i z hz;obtain ⟨lp,sps,hp,hs,ws⟩:=tp.ch c;have hs:H' lp=some (.lst (sps.map V.ref)):=hs;walk_at "rd";rename_i T1 h1 T2 h2;have cT:Ch [] H' (upd (upd H' T1 (.tup (sps.map V.ref))) T2 (.tup [.ref T1,.int t.bits,.int t.kept,.int t.first])):=(Ch.new h1 _).trans (Ch.new h2 _)
  refine ⟨⟨c.trans cT,us++[T2],by simp,?_⟩,_,_,_,_,rfl⟩
  rw [B0,et];exact bu ⟨T1,sps,af,aA h2 af,WsAt.tu (Tu.same cT) ws⟩ (dv cT uu)
 rintro ys σ H3 ⟨⟨c3,us,rfl,uu⟩,_⟩;rw [BF,<- lt,B2] at uu;intro D hD;have hx3:H3 x=some (.ins C dx (putF "ins" (.int (ins:Int)) [])):=c3.get hx2 (by simp)
 obtain ⟨ops,ho,oo⟩:=(dr2.ch c3).o;have nox:ol≠x:=aI ho hx3 (by intro z; cases z)
 walk_at "rd";rename_i tb h1 to h3;have ntx:tb≠x:=(ar (aA hD hx3) h1).symm;have nox2:to≠x:=fun z=>by rw [z,af] at h3; cases h3
 have cF:Ch [x] H3 (upd (upd (upd (upd (upd H3 D (.lst (us.map V.ref))) tb (.tup (us.map V.ref))) x (.ins C dx (putF "blocks" (.ref tb) (putF "ins" (.int (ins:Int)) [])))) to (.tup (ops.map V.ref))) x (.ins C dx (putF "outs" (.ref to) (putF "blocks" (.ref tb) (putF "ins" (.int (ins:Int)) []))))) :=
  ((((Ch.new hD _).trans (Ch.new h1 _)).wk.trans Ch.put).trans (Ch.new h3 _)).trans Ch.put
 have tu:=Tu.ch cF hx3 (fun _ z=>by cases z)
 exact q tb to _ ((c2.trans c3.wk).trans cF) af ⟨⟨us,aB ntx (aA h3 (aB ntx af)),aF (fun _ _=>BkAt.tu tu) uu⟩,⟨ops,aB nox2 af,WsAt.tu tu oo⟩⟩
end
end

section
def spNext (K:PySem.W.Frag):Sp:=fun vs H Q _=>∃ (a b:Addr) (ns:List Int) (c:Int),vs=[.ref a,.ref b]/\Scr K H a ns/\H b=some (.lst [.int c])/\0<=c/\c < 2 ^ 60 /\
 ∀ (n:Int) (H':Hp),0<=n->n < 2147483629->Ch [b] H H'->H' b=some (.lst [.int (c + 1)])->Q (.int n) H'
section
variable {P:Program}{w:World}{K:PySem.W.Frag}{mg:Str->Option Value}{base:Heap}{f:Addr}{fd:FuncData}{k:Nat}
theorem av44:AF (defScope (top 44)) ["_law_script", "_law_at", "_law_cell", "_law_figures", "_law_k", "_law_m"]:=⟨∅⟩
theorem gl44:AG (defScope (top 44)) ["len", "range"]:=⟨∅⟩
theorem scNext:FnScope ["_law_script", "_law_at", "_law_cell", "_law_figures", "_law_k", "_law_m"] ["_law_script", "_law_at"] (defScope (top 44)):=⟨rfl,rfl,rfl,∅,rfl,∅,∅⟩
theorem zt (F:Fun K "_law_next" "_law_next" (top 44) f fd) (z_len:mg "len" = none) (z_range:mg "range" = none) :
  FnOk P w K mg base CX0 (k + 1) f fd ["_law_script", "_law_at"] (spNext K):=by
 have nd:=scNext.nd;refine F.ok scNext (fun vs H Q E h=>?_) (fun cdv A outer s H vs Q E hr h=>?_)
 ·obtain ⟨a,b,ns,c,rfl,_⟩:=h
  rfl
 obtain ⟨a,b,ns,c,rfl,hS,hb,h0,h1,q⟩:=h;refine ⟨_,(Pr.h (ah (eS (av cH (ak bR (qv av44 1 rfl) ag (fun _ _=>rfl)) ag) (wV (qv av44 1 rfl) ag vG)) (ah (ay (i:=2) nd rfl (av44.l 2 rfl) ag) (gg (aC (ax eP (aq aJ (gl44.g 0 rfl) z_len BY (aa (qv av44 0 rfl) ab ae) aK aL) ag (nomark _)) (ai (ay (i:=2) nd rfl (av44.l 2 rfl) (ak bR (qv av44 0 rfl) (av bG (ak bR (qv av44 1 rfl) ag (fun _ _=>rfl)) (aq aJ (gl44.g 0 rfl) z_len BY (aa (qv av44 0 rfl) ab ae) aK aL)) (fun _ _=>rfl)))) aE) (gg (aC (bz (i3 (ax eP (aq aJ (gl44.g 0 rfl) z_len BY (aa (qv av44 0 rfl) ab ae) aK aL) ag (nomark _)) (i6 (ax br (av bG (ak bR (qv av44 0 rfl) ag (fun _ _=>rfl)) ag) ag (nomark _))))) (ah (ay (i:=3) nd rfl (av44.l 3 rfl) (qv av44 2 rfl)) (ah (bK Ci rfl (cV (gl44.g 1 rfl) z_range (aa (av bG (av dj (ak bR (qv av44 1 rfl) ag (fun _ _=>rfl)) (aq aJ (gl44.g 0 rfl) z_len BY (aa (qv av44 0 rfl) ab ae) aK aL)) ag) ab bT)) (aj (i:=4) nd rfl (av44.l 4 rfl)) (ai (ay (i:=3) nd rfl (av44.l 3 rfl) (av dj (qv av44 3 rfl) ag)))) (ai (aC (bz (bg (ax vM (qv av44 3 rfl) (aN (aa ag (aa (iZ iN ag) ab iW) aV)) rfl) (bJ (ax eO (ak bR (qv av44 1 rfl) ag (fun _ _=>rfl)) (aq aJ (gl44.g 0 rfl) z_len BY (aa (qv av44 0 rfl) ab ae) aK aL) (nomark _))))) (ai (au (av bG (qv av44 3 rfl) ag))) aE)))) aE) (ah (ay (i:=5) nd rfl (av44.l 5 rfl) (av bG (av eK (av cH (av cH (av bG (qv av44 2 rfl) ag) (av eK (av eK (ak bR (qv av44 1 rfl) ag (fun _ _=>rfl)) (ak bR (qv av44 1 rfl) ag (fun _ _=>rfl))) ag)) ag) ag) ag)) (ah (ay (i:=5) nd rfl (av44.l 5 rfl) (av bG (av eK (qv av44 5 rfl) (qv av44 5 rfl)) ag)) (ai (au (av bG (av eK (av cH (qv av44 5 rfl) (av eK (ak bR (qv av44 1 rfl) ag (fun _ _=>rfl)) ag)) ag) ag)))))))))),?_⟩
 have h63:ns.length<=63:=hS.1
 (try dsimp only [cxOf])
 walk_at "rd";refine gc (fun σ H'=>∃ n:Int,σ=[some (.ref a),some (.ref b),some (.int n),none,none,none]/\Ch [b] H H'/\H' b=some (.lst [.int (c + 1)])) ?_ ?_
 ·walk_at "rd"
  refine ite2 (fun hc=>?_) (fun hc=>?_)
  ·have hc':0 < (ns.length:Int):=by simpa using hc
   have e1:0<=(c + 1) % (ns.length:Int):=Dq _ (by omega)
   have e2:(c + 1) % (ns.length:Int) < (ns.length:Int):=Dr _ hc';obtain ⟨n,hn⟩:=nc e1 e2;walk_at "rd"
  ·walk_at "rd"
 ·rintro σ H1 ⟨n,rfl,c1,b1⟩
  have hS1:Scr K H1 a ns:=hS.ch hb c1;refine gc (fun σ H'=>∃ u v w,σ=[some (.ref a),some (.ref b),some (.int n),u,v,w]/\Ch [b] H H'/\H' b=some (.lst [.int (c + 1)])) ?_ ?_
  ·walk_at "rd"
   refine ite2 (fun hc=>?_) (fun hc=>iteF ?_)
   ·have hc':0 < (ns.length:Int):=by simpa using hc
    obtain ⟨n0,hn0⟩:=nc (ns:=ns) (i:=0) (by omega) hc'
    walk_at "rd";refine ite2 (fun hd=>?_) (fun hd=>?_)
    ·walk_at "rd"
     refine eR (fun i σ H'=>H'=H1/\∃ g kk,σ=[some (.ref a),some (.ref b),some (.int n),some (.int g),kk,none]) ⟨rfl,_,_,rfl⟩ ?_ ?_
     ·rintro i σ H' hi ⟨rfl,g,kk,rfl⟩
      walk_at "rd"
     ·rintro σ H' ⟨rfl,g,kk,rfl⟩
      walk_at "rd";refine ite2 (fun hd=>iteT ?_) (fun hd=>?_)
      ·walk_at "rd"
       exact q _ _ (Dq _ (by decide)) (Int.lt_of_lt_of_le (Dr _ (by decide)) (by decide)) (c1.trans (Ch.new (by assumption) _)) (by walk_at "get")
      ·walk_at "rd"
       refine ite2 (fun he=>?_) (fun he=>?_)
       ·walk_at "rd"
        exact q _ _ (Dq _ (by decide)) (Int.lt_of_lt_of_le (Dr _ (by decide)) (by decide)) (c1.trans (Ch.new (by assumption) _)) (by walk_at "get")
       ·walk_at "rd"
    ·walk_at "rd"
   ·walk_at "rd"
  ·rintro σ H2 ⟨u,v,w,rfl,c2,b2⟩
   walk_at "rd";exact q _ _ (Dq _ (by decide)) (Dr _ (by decide)) c2 b2
end
end

section
theorem p6 (z:Int):V.int (z % 2)=bV (decide (z % 2=1)):=by
 have:z % 2=0\/z % 2=1:=by omega
 rcases this with h | h <;> rw [h] <;> rfl
theorem p7 {H2:Hp}{b p:Addr}{o:HO} (c:Ch [b] H H2) (hb:H2 b=some o) (h:H2 p=none):H p=none:=by
 cases e:H p with
 | none=>rfl
 | some o' =>
  by_cases z:p=b
  ·rw [z,hb] at h; cases h
  ·rw [c.get e (by simpa using z)] at h; cases h
structure DQ (K:PySem.W.Frag) (H H':Hp) (a b:Addr) (ns:List Int) (c:Int):Prop where
 ch:Ch [b] H H'
 hS:Scr K H' a ns
 hb:H' b=some (.lst [.int c])
section
variable {K:PySem.W.Frag}{H H' H'':Hp}{a b q:Addr}{ns:List Int}{c c':Int}
theorem DQ.next (d:DQ K H H' a b ns c) (e:Ch [b] H' H'') (h:H'' b=some (.lst [.int c'])):DQ K H H'' a b ns c':=⟨d.ch.trans e,d.hS.ch d.hb e,h⟩
theorem DQ.new (d:DQ K H H' a b ns c) (e:Ch [] H' H''):DQ K H H'' a b ns c:=⟨d.ch.trans e.wk,d.hS.same e,e.get d.hb (by simp)⟩
theorem DQ.own {xs:List V} (d:DQ K H H' a b ns c) (h0:H q=none) (hq:H' q=some (.lst xs)) (nb:b≠q):DQ K H (upd H' q (.lst zs)) a b ns c:=⟨Ch.own h0 d.ch,d.hS.ch hq Ch.put,aB nb d.hb⟩
theorem DQ.free (d:DQ K H H' a b ns c) (h:H' q=none):H q=none:=p7 d.ch d.hb h
theorem DQ.nb (d:DQ K H H' a b ns c) (h:H' q=none):b≠q:=ar d.hb h
theorem DQ.trans (d:DQ K H H' a b ns c) (e:DQ K H' H'' a b ns c'):DQ K H H'' a b ns c':=⟨d.ch.trans e.ch,e.hS,e.hb⟩
end
structure CI (c c':Int) (j:Int):Prop where
 lo:c'<=c
 hi:c<=c' + j
section
variable {P:Program}{w:World}{K:PySem.W.Frag}{mg:Str->Option Value}{base:Heap}{f:Addr}{fd:FuncData}{k:Nat}
theorem eG:Nd "_law_next" := ∅
theorem av45:AF (defScope (top 45)) ["_law_script", "_law_at", "_law_many", "_law_m", "_law_bits", "_law_k"]:=⟨∅⟩
theorem gl45:AG (defScope (top 45)) ["_law_next", "range"]:=⟨∅⟩
structure SB (K:PySem.W.Frag) (H H':Hp) (a b:Addr) (ns:List Int) (c:Int) (l:Addr) (bs:List Bool):Prop where
 d:∃ c',DQ K H H' a b ns c'/\c<=c'/\c'<=c + 100
 f:H l=none
 g:H' l=some (.lst (bs.map bV))
def spBits (K:PySem.W.Frag):Sp:=fun vs H Q _=>∃ (a b:Addr) (ns:List Int) (c:Int) (many:Nat),vs=[.ref a,.ref b,.int (many:Int)]/\Scr K H a ns/\H b=some (.lst [.int c])/\0<=c/\c < 2 ^ 55/\many<=60/\∀ (l:Addr) (bs:List Bool) (H':Hp),SB K H H' a b ns c l bs->bs.length=many->Q (.ref l) H'
theorem scBits:FnScope ["_law_script", "_law_at", "_law_many", "_law_m", "_law_bits", "_law_k"] ["_law_script", "_law_at", "_law_many"] (defScope (top 45)):=⟨rfl,rfl,rfl,∅,rfl,∅,∅⟩
theorem zu (F:Fun K "_law_some_bits" "_law_some_bits" (top 45) f fd) (D_law_next:DefOk P w K mg base CX0 k "_law_next" ["_law_script", "_law_at"] (spNext K)) (z_range:mg "range" = none):FnOk P w K mg base CX0 (k + 1) f fd ["_law_script", "_law_at", "_law_many"] (spBits K):=by
 have nd:=scBits.nd;refine F.ok scBits (fun vs H Q E h=>by obtain ⟨a,b,ns,c,many,rfl,_⟩:=h; rfl) (fun cdv A outer s H vs Q E hr h=>?_)
 obtain ⟨a,b,ns,c,many,rfl,hS,hb,h0,h1,hm,q⟩:=h;refine ⟨_,(Pr.h (ah (ay (i:=3) nd rfl (av45.l 3 rfl) (ao D_law_next hr (gl45.g 0 rfl) pass0 (aa (qv av45 0 rfl) (aa (qv av45 1 rfl) ab ae) ae) eG)) (ah (ay (i:=4) nd rfl (av45.l 4 rfl) (bZ ab)) (ah (bK Ci rfl (cV (gl45.g 1 rfl) z_range (aa (qv av45 2 rfl) ab ae)) (aj (i:=5) nd rfl (av45.l 5 rfl)) (gg (aC (ax br (av bG (qv av45 5 rfl) ag) ag (nomark _)) (ai (ay (i:=3) nd rfl (av45.l 3 rfl) (ao D_law_next hr (gl45.g 0 rfl) pass0 (aa (qv av45 0 rfl) (aa (qv av45 1 rfl) ab ae) ae) eG))) aE) (ah (bp (bM Cr CG CH cy (qv av45 4 rfl) (aa (av bG (qv av45 3 rfl) ag) ab bT))) (ai (ay (i:=3) nd rfl (av45.l 3 rfl) (av dj (qv av45 3 rfl) ag)))))) (ai (au (qv av45 4 rfl))))))),?_⟩
 (try dsimp only [cxOf])
 walk_at "rd";rename_i m H1 m0 m1 c1 b1 l hl;have nbl:b≠l:=ar b1 hl;have d1:DQ K H H1 a b ns (c + 1):=⟨c1,hS.ch hb c1,b1⟩;have fl:H l=none:=d1.free hl;refine eR (fun i σ H'=>∃ (m' c':Int) (bs:List Bool) (u:Option V),σ=[some (.ref a),some (.ref b),some (.int (many:Int)),some (.int m'),some (.ref l),u]/\0<=m'/\DQ K H H' a b ns c'/\H' l=some (.lst (bs.map bV))/\bs.length=i/\CI c' (c + 1) (i:Nat)) ⟨m,c + 1,[],_,rfl,m0,d1.new (Ch.new hl _),af,rfl,by omega,by simp⟩ ?_ ?_
 ·rintro i σ H' hi ⟨m',c',bs,u,rfl,m0',d,g,lb,ci⟩
  have hi:i < many:=by simpa using hi
  have ci1:=ci.lo;have ci2:=ci.hi;have hS':=d.hS;have hb':=d.hb;walk_at "rd";refine gc (fun σ H2=>∃ (m' c':Int),σ=[some (.ref a),some (.ref b),some (.int (many:Int)),some (.int m'),some (.ref l),some (.int (0 + (i:Int)))]/\0<=m'/\DQ K H H2 a b ns c'/\H2 l=some (.lst (bs.map bV))/\CI c' (c + 1) (i + 1:Nat)) ?_ ?_
  ·walk_at "rd"
   refine ite2 (fun hc=>?_) (fun hc=>?_)
   ·have e29:(0 + (i:Int)) % 30=29:=by simpa using hc
    walk_at "rd";rename_i m2 H2 n0 n1 c2 b2;exact ⟨d.next c2 b2,c2.get g (by simpa using nbl.symm),by omega,by omega⟩
   ·walk_at "rd"
    exact ⟨by omega,by omega⟩
  ·rintro σ H2 ⟨m2,c2,rfl,m20,d2,g2,ci'⟩
   have lb2:(bs.map bV).length<=60:=by rw [BF]; omega
   walk_at "rd";refine ⟨d2.own fl g2 nbl,(show _=some (HO.lst ((bs++[decide (m2 % 2=1)]).map bV)) from by rw [af,BL,List.map_singleton,<- p6]),by simp [lb],ci'⟩
 ·rintro σ H' ⟨m',c',bs,u,rfl,m0',d,g,lb,ci⟩
  have lb:bs.length=many:=by simpa using lb
  have ci1:=ci.lo;have ci2:=ci.hi;walk_at "rd";exact q l bs _ ⟨⟨c',d,by omega,by omega⟩,fl,g⟩ lb
end
end

section
def num:List Bool->Nat
 | []=>0
 | b :: r=>(if b then 1 else 0) + 2 * num r
def tbit (bits:Int) (bs:List Bool):Bool:=decide (bits / 2 ^ num bs % 2=1)
def shl:List Bool->Nat->List Int
 | [],_=>[]
 | b :: r,j=>bi b * 2 ^ j :: shl r (j + 1)
theorem p8:∀ (bs:List Bool) (j:Nat),(shl bs j).length=bs.length
 | [],_=>rfl
 | b :: r,j=>by simp [shl,p8 r]
theorem qa:∀ (bs:List Bool) (j i:Nat) (b:Bool),bs[i]?=some b->(shl bs j)[i]?=some (bi b * 2 ^ (j + i))
 | [],_,i,b,h=>by simp at h
 | a :: r,j,0,b,h=>by simp at h; subst h; rfl
 | a :: r,j,i + 1,b,h=>by
  have:=qa r (j + 1) i b (by simpa using h)
  rw [show j + (i + 1)=j + 1 + i by omega]
  simpa [shl] using this
theorem qc:∀ (bs:List Bool) (j:Nat),(shl bs j).sum=(num bs:Int) * 2 ^ j
 | [],j=>by simp [shl,num]
 | b :: r,j=>by
  rw [shl,List.sum_cons,qc r (j + 1),Int.pow_succ,num];cases b <;> simp only [bi,if_true,Cc,Ct] <;> push_cast
  ·rw [Int.zero_mul,Int.zero_add,Int.mul_comm (2 ^ j) 2,<- Int.mul_assoc,Int.mul_comm (num r:Int) 2,Int.zero_add]
  ·rw [Int.add_mul,Int.mul_comm (2 ^ j) 2,<- Int.mul_assoc,Int.mul_comm (num r:Int) 2]
theorem zv (z:Int):V.int (z % 2)=bV (decide (z % 2=1)):=by
 have:z % 2=0\/z % 2=1:=by omega
 rcases this with h | h <;> rw [h] <;> rfl
section
variable {P:Program}{w:World}{K:PySem.W.Frag}{mg:Str->Option Value}{base:Heap}{f:Addr}{fd:FuncData}{k:Nat}
theorem qd:Nd "ask_length" := ∅
theorem zw:Nd "ask_values" := ∅
theorem zx:bootBuiltins "sum" = some (.builtin "sum"):=∅
theorem zy:("sum" : Str) ≠ "__name__" := ∅
theorem zA:Nd "sum" := ∅
theorem gl10:AG (defScope (top 10)) ["len", "is_listed"]:=⟨∅⟩
theorem av10:AF (defScope (top 10)) ["row", "length"]:=⟨∅⟩
def spLength:Sp:=fun vs H Q _=>∃ (a:Addr) (n:Int) (xs:List V),vs=[.ref a,.int n]/\H a=some (.lst xs)/\n=(xs.length:Int)/\∀ H',Ch [] H H'->Q .non H'
theorem scLength:FnScope ["row", "length"] ["row", "length"] (defScope (top 10)):=⟨rfl,rfl,rfl,∅,rfl,∅,∅⟩
theorem zB (F:Fun K "ask_length" "ask_length" (top 10) f fd) (Dis_listed:DefOk P w K mg base CX0 k "is_listed" ["thing"] spListed) (z_len:mg "len" = none) :
  FnOk P w K mg base CX0 (k + 1) f fd ["row", "length"] spLength:=by
 have nd:=scLength.nd;refine F.ok scLength (fun vs H Q E h=>by obtain ⟨a,n,xs,rfl,_⟩:=h; rfl) (fun cdv A outer s H vs Q E hr h=>?_)
 obtain ⟨a,n,xs,rfl,hx,rfl,q⟩:=h;refine ⟨_,(Pr.h (ai (aC (bz (bg (aX (aO (ao Dis_listed hr (gl10.g 1 rfl) pass0 (aa (qv av10 0 rfl) ab ae) dH))) (bJ (ax cx (aq aJ (gl10.g 0 rfl) z_len BY (aa (qv av10 0 rfl) ab ae) aK aL) (qv av10 1 rfl) (nomark _))))) (ai cO) aE))),?_⟩
 (try dsimp only [cxOf])
 refine ⟨_,rfl,.list,a,xs,rfl,hx,fun H1 c1=>?_⟩
 have hx1:H1 a=some (.lst xs):=c1.get hx (by simp)
 walk_at "rd";refine ite2 (fun hc=>absurd hc (by simp)) (fun hc=>?_)
 walk_at "rd";exact q _ c1
theorem gl11:AG (defScope (top 11)) ["ask_length", "len", "zip", "is_below"]:=⟨∅⟩
theorem av11:AF (defScope (top 11)) ["row", "wides", "value", "wide"]:=⟨∅⟩
def spValues:Sp:=fun vs H Q _=>∃ (a b:Addr) (row:List Bool),vs=[.ref a,.ref b]/\H a=some (.lst (row.map bV))/\H b=some (.lst (List.replicate row.length (.int 1)))/\∀ H',Ch [] H H'->Q .non H'
theorem scValues:FnScope ["row", "wides", "value", "wide"] ["row", "wides"] (defScope (top 11)):=⟨rfl,rfl,rfl,∅,rfl,∅,∅⟩
theorem zC (F:Fun K "ask_values" "ask_values" (top 11) f fd) (Dask_length:DefOk P w K mg base CX0 k "ask_length" ["row", "length"] spLength) (Dis_below:DefOk P w K mg base CX0 k "is_below" ["thing", "bound"] spBelow) (z_len:mg "len" = none) (z_zip:mg "zip" = none):FnOk P w K mg base CX0 (k + 1) f fd ["row", "wides"] spValues:=by
 have nd:=scValues.nd;refine F.ok scValues (fun vs H Q E h=>by obtain ⟨a,b,row,rfl,_⟩:=h; rfl) (fun cdv A outer s H vs Q E hr h=>?_)
 obtain ⟨a,b,row,rfl,hx,hb,q⟩:=h;refine ⟨_,(Pr.h (ah (bp (ao Dask_length hr (gl11.g 0 rfl) pass0 (aa (qv av11 0 rfl) (aa (aq aJ (gl11.g 1 rfl) z_len BY (aa (qv av11 1 rfl) ab ae) aK aL) ab bf) ae) qd)) (ai (bK Ci rfl (i9 .list .list (gl11.g 2 rfl) z_zip (aa (qv av11 0 rfl) (aa (qv av11 1 rfl) ab ae) ae)) (cN rfl (aw (aj (i:=2) nd rfl (av11.l 2 rfl)) (aw (aj (i:=3) nd rfl (av11.l 3 rfl)) ba))) (ai (aC (aX (aO (ao Dis_below hr (gl11.g 3 rfl) pass0 (aa (qv av11 2 rfl) (aa (av fY ag (qv av11 3 rfl)) ab bT) ae) e6))) (ai cO) aE)))))),?_⟩
 (try dsimp only [cxOf])
 walk_at "rd";rename_i H1 c1;refine wR (xs:=row.map bV) (ys:=List.replicate row.length (.int 1)) (fun i σ H'=>Ch [] H H'/\∃ u v,σ=[some (.ref a),some (.ref b),u,v]) ⟨c1,_,_,rfl⟩ ?_ ?_ ?_
 ·rintro i σ H' hi ⟨c,_⟩
  exact ⟨SqL.of (c.get hx (by simp)),SqL.of (c.get hb (by simp))⟩
 ·rintro i x y σ H' T e1 e2 ⟨c,u,v,rfl⟩ hT
  obtain rfl:y=.int 1:=by
   rw [List.getElem?_replicate] at e2
   split at e2
   ·exact (Ca e2).symm
   ·cases e2
  rw [BN] at e1;obtain ⟨bb,_,rfl⟩:=B5.mp e1;obtain ⟨z0,z1⟩:=bi01 bb;unfold bV;have e2':(1 * 2 ^ Int.toNat 1:Int)=2:=by decide
  rw [<- e2'] at z1;walk_at "rd"
 ·rintro σ H' ⟨c,_⟩
  exact q _ c
theorem gl12:AG (defScope (top 12)) ["ask_length", "ask_values", "len"]:=⟨∅⟩
theorem av12:AF (defScope (top 12)) ["row", "length"]:=⟨∅⟩
def spABits:Sp:=fun vs H Q _=>∃ (a:Addr) (n:Int) (row:List Bool),vs=[.ref a,.int n]/\H a=some (.lst (row.map bV))/\n=(row.length:Int)/\row.length<=1000/\∀ H',Ch [] H H'->Q .non H'
theorem scABits:FnScope ["row", "length"] ["row", "length"] (defScope (top 12)):=⟨rfl,rfl,rfl,∅,rfl,∅,∅⟩
theorem zD (F:Fun K "ask_bits" "ask_bits" (top 12) f fd) (Dask_length:DefOk P w K mg base CX0 k "ask_length" ["row", "length"] spLength) (Dask_values:DefOk P w K mg base CX0 k "ask_values" ["row", "wides"] spValues) (z_len:mg "len" = none) :
  FnOk P w K mg base CX0 (k + 1) f fd ["row", "length"] spABits:=by
 have nd:=scABits.nd;refine F.ok scABits (fun vs H Q E h=>by obtain ⟨a,n,row,rfl,_⟩:=h; rfl) (fun cdv A outer s H vs Q E hr h=>?_)
 obtain ⟨a,n,row,rfl,hx,rfl,hlen,q⟩:=h;have hlen:(row.map bV).length<=1000:=by rw [BF]; exact hlen
 refine ⟨_,(Pr.h (ah (bp (ao Dask_length hr (gl12.g 0 rfl) pass0 (aa (qv av12 0 rfl) (aa (qv av12 1 rfl) ab ae) ae) qd)) (ai (bp (ao Dask_values hr (gl12.g 1 rfl) pass0 (aa (qv av12 0 rfl) (aa (av vR (bZ (aa ag ab aV)) (aq aJ (gl12.g 2 rfl) z_len BY (aa (qv av12 0 rfl) ab ae) aK aL)) ab bT) ae) zw))))),?_⟩
 (try dsimp only [cxOf])
 walk_at "rd";rename_i H1 c1 p1 hp1 p2 hp2;exact ⟨by rw [af,oT]; simp,fun H' c=>q _ (((c1.trans (Ch.new hp1 _)).trans (Ch.new hp2 _)).trans c)⟩
theorem av18:AF (defScope (top 18)) ["bits", "fed", "number"]:=⟨∅⟩
theorem gl18:AG (defScope (top 18)) ["sum", "enumerate"]:=⟨∅⟩
def jI:Scope:={ kind:=PySem.ScopeKind.function,names:=[ (PySem.Str.ofString ".0",PySem.NameKind.local),(PySem.Str.ofString "place",PySem.NameKind.local),(PySem.Str.ofString "bit",PySem.NameKind.local)],isGenerator:=false,isCoroutine:=false,more:=[]:PySem.Scope }
theorem jJ:CompOk jI (defScope (top 18)) (["place", "bit"]:List Str) (["bits", "fed", "number"]:List Str) [] (["place", "bit"]:List Str):=compOk rfl ∅ ∅ ∅ ∅ rfl ∅
theorem gQ:AK (relab jI (defScope (top 18))) ["place", "bit"]:=⟨∅⟩
theorem qe:AV (relab jI (defScope (top 18))) ["place", "bit"]:=⟨∅⟩
def spTbit:Sp:=fun vs H Q _=>∃ (bits:Int) (r:Addr) (bs:List Bool),vs=[.int bits,.ref r]/\H r=some (.lst (bs.map bV))/\bs.length<=4/\∀ H',Ch [] H H'->Q (bV (tbit bits bs)) H'
theorem scTbit:FnScope ["bits", "fed", "number"] ["bits", "fed"] (defScope (top 18)):=⟨rfl,rfl,rfl,∅,rfl,∅,∅⟩
theorem zE (F:Fun K "table_bit" "table_bit" (top 18) f fd) (z_sum:mg "sum" = none) (z_enumerate:mg "enumerate" = none):FnOk P w K mg base CX0 (k + 1) f fd ["bits", "fed"] spTbit:=by
 have nd:=scTbit.nd;refine F.ok scTbit (fun vs H Q E h=>by obtain ⟨bits,r,bs,rfl,_⟩:=h; rfl) (fun cdv A outer s H vs Q E hr h=>?_)
 obtain ⟨bits,r,bs,rfl,hr0,l4,q⟩:=h;refine ⟨_,(Pr.h (ah (ay (i:=2) nd rfl (av18.l 2 rfl) (aq (xI rfl) (gl18.g 0 rfl) z_sum zx (aa (aR rfl jJ (fA .list (gl18.g 1 rfl) z_enumerate (aa (qv av18 1 rfl) ab ae)) (fun _ _ _ _ _=>(bP K 2 rfl rfl (aw (aj (i:=0) jJ.nd rfl (Or.inl (gQ.k 0 rfl)) (Or.inr (gQ.k 0 rfl))) (aw (aj (i:=1) jJ.nd rfl (Or.inl (gQ.k 1 rfl)) (Or.inr (gQ.k 1 rfl))) ba)))) (fun _ _ _ _ _=>aU) (fun _ _ _ _ _=>(av fY (qw qe 1 rfl) (qw qe 0 rfl)))) ab bc) zy zA)) (ai (au (av uJ (av uI (qv av18 0 rfl) (qv av18 2 rfl)) ag))))),?_⟩
 (try dsimp only [cxOf])
 walk_at "rd";refine gm (bs.map bV) (fun i ys σ H'=>Ch [] H H'/\ys=((shl bs 0).take i).map V.int/\∃ u v,σ=[u,v]) (by walk_at "sz") ⟨Ch.refl _ _,rfl,_,_,rfl⟩ ?_ ?_ ?_
 ·rintro i ys σ H' hi ⟨c,rfl,_⟩
  exact ⟨by simp; omega,SqL.of (c.get hr0 (by simp))⟩
 ·rintro i ys σ H' x T hx ⟨c,rfl,u,v,rfl⟩ hT
  rw [BN] at hx;obtain ⟨b,hb,rfl⟩:=B5.mp hx;have hi:i < bs.length:=(BX.mp hb).1;have sg:=qa bs 0 i b hb;have na:(bi b).natAbs < 2 ^ 64:=by cases b <;> decide
  unfold bV;walk_at "rd";refine ⟨?_,_,_,rfl⟩;rw [B0,sg]; (try dsimp only); rw [Dc,Nat.zero_add]; simp
 ·rintro ys σ H' ⟨c,rfl,_⟩
  intro D hD;have tk:(shl bs 0).take (bs.map bV).length=shl bs 0:=List.take_of_length_le (by rw [BF,p8]; exact BI _)
  rw [tk];refine ⟨D,shl bs 0,rfl,af,?_⟩;rw [qc,Int.pow_zero,Int.mul_one];walk_at "rd";refine Eq.mp (Cs (fun z=>Q z (upd H' D (.lst ((shl bs 0).map V.int)))) ?_) (q _ (c.trans (Ch.new hD _)))
  dsimp only
  rw [PyProof.Rows.bitAnd_m1,Dc,zv];rfl
end
end

section
def srcV (row:List Bool) (v:Nat->Bool) (s:Src):Bool:=if s.1 then v s.2 else row.getD s.2 false
def bkV (row:List Bool) (v:Nat->Bool) (b:Bk):Bool:=tbit b.bits (b.ss.map (srcV row v))
def hadK (rl bd zl:Addr):List (Key × V):=[(.inr "in",.ref rl),(.inr "block",.ref bd),(.inr "none",.ref zl)]
structure Hd (H:Hp) (d rl bd zl:Addr) (row:List Bool) (kvs:List (Key × V)):Prop where
 d:H d=some (.dK (hadK rl bd zl))
 r:H rl=some (.lst (row.map bV))
 b:H bd=some (.dK kvs)
theorem Hd.ch {H:Hp} (h:Hd H d rl bd zl row kvs) (c:Ch [] H H'):Hd H' d rl bd zl row kvs:=⟨c.get h.d (by simp),c.get h.r (by simp),c.get h.b (by simp)⟩
def Knows (row:List Bool) (kvs:List (Key × V)) (v:Nat->Bool) (ss:List Src):Prop:=∀ s∈ss,(s.1=true->valV kvs (.inl (s.2:Int))=some (bV (v s.2)))/\(s.1=false->s.2 < row.length)
section
variable {P:Program}{w:World}{K:PySem.W.Frag}{mg:Str->Option Value}{base:Heap}{f:Addr}{fd:FuncData}{k:Nat}
local macro_rules | `(tactic| walk_at "user")=>`(tactic| first
 | (apply eY; (focus walk_at "get"); (focus with_reducible assumption))
 | (apply fC; (focus walk_at "get"); (focus with_reducible assumption))
 | (apply dputI; (focus walk_at "get"); (focus with_reducible assumption)))
theorem qf:Nd "table_bit" := ∅
def hadR (rl bd:Addr) (s:Src):Addr:=if s.1 then bd else rl
theorem qg {rl bd zl:Addr} (s:Src):valV (hadK rl bd zl) (.inr (wd s.1))=some (.ref (hadR rl bd s)):=by
 obtain ⟨sb,sn⟩:=s;cases sb <;> rfl
theorem qj {K:PySem.W.Frag} (h:Hd H d rl bd zl row kvs){s:Src} (kn:(s.1=true->valV kvs (.inl (s.2:Int))=some (bV (v s.2)))/\(s.1=false->s.2 < row.length)) {Q:VK} (q:Q (bV (srcV row v s)) H) :
  LDx K (.ref (hadR rl bd s)) (.int (s.2:Int)) H Q:=by
 obtain ⟨sb,sn⟩:=s;cases sb with
 | true=>exact ⟨bd,rfl,.inr ⟨_,eY h.b (kn.1 rfl),q⟩⟩
 | false =>
  have hl:=kn.2 rfl;refine ⟨rl,rfl,.inl ⟨_,_,rfl,SqL.of h.r,?_⟩⟩;refine Atx.of (v:=bV (row.getD sn false)) (bW ?_) q;rw [BN,Cu,BJ (show sn < row.length from hl)];rfl
theorem gl38:AG (defScope (top 38)) ["table_bit"]:=⟨∅⟩
theorem av38:AF (defScope (top 38)) ["block", "had"]:=⟨∅⟩
def jK:Scope:={ kind:=PySem.ScopeKind.function,names:=[ (PySem.Str.ofString ".0",PySem.NameKind.local),(PySem.Str.ofString "word",PySem.NameKind.local),(PySem.Str.ofString "number",PySem.NameKind.local),(PySem.Str.ofString "had",PySem.NameKind.free)],isGenerator:=false,isCoroutine:=false,more:=[]:PySem.Scope }
theorem jL:CompOk jK (defScope (top 38)) (["word", "number"]:List Str) (["block", "had"]:List Str) [1] (["word", "number", "had"]:List Str):=compOk rfl ∅ ∅ ∅ ∅ rfl ∅
theorem gS:AK (relab jK (defScope (top 38))) ["word", "number"]:=⟨∅⟩
theorem jM:AV (relab jK (defScope (top 38))) ["word", "number", "had"]:=⟨∅⟩
def spBB:Sp:=fun vs H Q _=>∃ (p d rl bd zl:Addr) (row:List Bool) (kvs:List (Key × V)) (v:Nat->Bool) (b:Bk),vs=[.ref p,.ref d]/\BkAt .tuple H b p/\b.ss.length<=4/\Hd H d rl bd zl row kvs/\Knows row kvs v b.ss/\∀ H',Ch [] H H'->Q (bV (bkV row v b)) H'
theorem scBB:FnScope ["block", "had"] ["block", "had"] (defScope (top 38)):=⟨rfl,rfl,rfl,∅,rfl,∅,∅⟩
theorem zF (F:Fun K "block_bit" "block_bit" (top 38) f fd) (Dtable_bit:DefOk P w K mg base CX0 k "table_bit" ["bits", "fed"] spTbit):FnOk P w K mg base CX0 (k + 1) f fd ["block", "had"] spBB:=by
 have nd:=scBB.nd;refine F.ok scBB (fun vs H Q E h=>by obtain ⟨p,d,rl,bd,zl,row,kvs,v,b,rfl,_⟩:=h; rfl) (fun cdv A outer s H vs Q E hr h=>?_)
 obtain ⟨p,d,rl,bd,zl,row,kvs,v,b,rfl,⟨lp,sps,hp,hs,ws⟩,s4,hd,kn,q⟩:=h;have hu:=di hr;have hs:H lp=some (.tup (sps.map V.ref)):=hs;have ls:=BH ws;rw [BF] at ls;refine ⟨_,(Pr.h (ai (au (ao Dtable_bit hr (gl38.g 0 rfl) pass0 (aa (ak az (qv av38 0 rfl) ag (fun _ _=>rfl)) (aa (aR rfl jL (cU (ak az (qv av38 0 rfl) ag (fun _ _=>rfl))) (fun _ _ _ _ _=>(bP K 2 rfl rfl (aw (aj (i:=0) jL.nd rfl (Or.inl (gS.k 0 rfl)) (Or.inr (gS.k 0 rfl))) (aw (aj (i:=1) jL.nd rfl (Or.inl (gS.k 1 rfl)) (Or.inr (gS.k 1 rfl))) ba)))) (fun _ _ _ _ _=>aU) (fun _ _ _ _ _=>(ak (oA hu K rfl) (ck hu (qw jM 2 rfl) (qw jM 0 rfl) (fun _ _=>rfl)) (qw jM 1 rfl) (fun _ _=>rfl)))) ab bc) aS) qf)))),?_⟩
 (try dsimp only [cxOf])
 walk_at "rd";refine dm (sps.map V.ref) (fun i ys σ H'=>H'=H/\ys=((b.ss.take i).map (srcV row v)).map bV/\∃ u v,σ=[u,v,some (.ref d)]) (by walk_at "sz") ⟨rfl,rfl,_,_,rfl⟩ ?_ ?_ ?_
 ·rintro i ys σ H' hi ⟨rfl,rfl,_⟩
  refine ⟨?_,SqT.of hs⟩;rw [BF,BF]; exact Ds _ _
 ·rintro i ys σ H' z hz ⟨rfl,rfl,u,v',rfl⟩
  obtain ⟨pl,x,rfl,g1,g2⟩:=bq ws i z hz;rw [BN] at g1;obtain ⟨sr,es,rfl⟩:=B5.mp g1;have et:b.ss.take (i + 1)=b.ss.take i++[sr]:=by rw [B0,es]; rfl
  rw [et,BL,BL];have g2:H' pl=some (.tup [.str (wd sr.1),.int (sr.2:Int)]):=g2;have hd1:=hd.d;have vw:=qg (rl:=rl) (bd:=bd) (zl:=zl) sr;walk_at "rd";refine qj hd (kn sr (BO es)) ?_;exact ⟨rfl,by simp,_,_,rfl⟩
 ·rintro ys σ H' ⟨rfl,rfl,_⟩
  intro D hD;rw [BF,<- ls,B2];walk_at "rd";exact q _ ((Ch.new hD _).trans (by assumption))
end
end

section
def kpB (bs:List Bk) (n:Nat):Bool:=match bs[n]? with
 | some b=>decide (b.kept=1)
 | none=>false
def fsB (bs:List Bk) (n:Nat):Bool:=match bs[n]? with
 | some b=>decide (b.first=1)
 | none=>false
def keptOf (bs:List Bk):List Nat:=(List.range bs.length).filter (kpB bs)
theorem fM{b:Bk} (h:bs[n]?=some b):kpB bs n=decide (b.kept=1):=by unfold kpB; rw [h]
theorem qk{b:Bk} (h:bs[n]?=some b):fsB bs n=decide (b.first=1):=by unfold fsB; rw [h]
theorem qo (bs:List Bk):(keptOf bs).Nodup:=List.nodup_range.filter _
theorem zG (h:n∈keptOf bs):n < bs.length:=by simpa using (Cb.mp h).1
theorem qp (bs:List Bk):(keptOf bs).length<=bs.length:=by
 have:=CO (kpB bs) (List.range bs.length)
 rwa [Cy] at this
abbrev keptD (bs:List Bk) (kv:Nat->Bool):List (Key × V):=wD (keptOf bs) fun n=>bV (kv n)
def fldsB (ins:Nat) (bt ot ol kd:Addr):List (Str × V):=[("ins",.int (ins:Int)),("blocks",.ref bt),("outs",.ref ot),("order",.ref ol),("kept",.ref kd)]
section
variable {ins:Nat}{bt ot ol kd:Addr}
theorem fp_i:List.lookup (Str.ofString "ins") (fldsP ins bt ot)=some (.int (ins:Int)):=rfl
theorem fp_b:List.lookup (Str.ofString "blocks") (fldsP ins bt ot)=some (.ref bt):=rfl
theorem fp_o:List.lookup (Str.ofString "outs") (fldsP ins bt ot)=some (.ref ot):=rfl
theorem fb_i:List.lookup (Str.ofString "ins") (fldsB ins bt ot ol kd)=some (.int (ins:Int)):=rfl
theorem fb_b:List.lookup (Str.ofString "blocks") (fldsB ins bt ot ol kd)=some (.ref bt):=rfl
theorem fb_o:List.lookup (Str.ofString "outs") (fldsB ins bt ot ol kd)=some (.ref ot):=rfl
theorem fb_r:List.lookup (Str.ofString "order") (fldsB ins bt ot ol kd)=some (.ref ol):=rfl
theorem fb_k:List.lookup (Str.ofString "kept") (fldsB ins bt ot ol kd)=some (.ref kd):=rfl
theorem zH {kd':Addr}:putF "kept" (.ref kd') (fldsB ins bt ot ol kd)=fldsB ins bt ot ol kd':=rfl
end
structure PlP (C:Addr) (H:Hp) (y dx:Addr) (ins:Nat) (bt ot ol kd:Addr) (bs:List Bk) (os:List Src) (order:List Nat) (kv:Nat->Bool):Prop where
 ob:H y=some (.ins C dx (fldsB ins bt ot ol kd))
 pk:PkT H bt ot bs os
 od:H ol=some (.lst (order.map nV))
 kd:H kd=some (.dK (keptD bs kv))
section
variable {P:Program}{w:World}{K:PySem.W.Frag}{mg:Str->Option Value}{base:Heap}{f:Addr}{fd:FuncData}{k:Nat}
theorem av39m0:AF (defScope (inClass (top 39) 0)) ["self", "ins", "blocks", "outs"]:=⟨∅⟩
theorem gl39m0:AG (defScope (inClass (top 39) 0)) ["loose_order", "dict", "enumerate"]:=⟨∅⟩
def jN:Scope:={ kind:=PySem.ScopeKind.function,names:=[ (PySem.Str.ofString ".0",PySem.NameKind.local),(PySem.Str.ofString "number",PySem.NameKind.local),(PySem.Str.ofString "block",PySem.NameKind.local)],isGenerator:=false,isCoroutine:=false,more:=[]:PySem.Scope }
theorem jO:CompOk jN (defScope (inClass (top 39) 0)) (["number", "block"]:List Str) (["self", "ins", "blocks", "outs"]:List Str) [] (["number", "block"]:List Str):=compOk rfl ∅ ∅ ∅ ∅ rfl ∅
theorem gU:AK (relab jN (defScope (inClass (top 39) 0))) ["number", "block"]:=⟨∅⟩
theorem jP:AV (relab jN (defScope (inClass (top 39) 0))) ["number", "block"]:=⟨∅⟩
def spBP (C:Addr):Sp:=fun vs H Q _=>∃ (y dx bt ot:Addr) (ins:Nat) (bs:List Bk) (os:List Src),vs=[.ref y,.int (ins:Int),.ref bt,.ref ot]/\H y=some (.ins C dx [])/\PkT H bt ot bs os/\(∀ b∈bs,b.ok ins bs.length)/\bs.length<=40 /\
 ∀ ol kd order H',Ch [y] H H'->H ol=none->H kd=none->Kahn (looseOf bs) (lsOf bs) order []->PlP C H' y dx ins bt ot ol kd bs os order (fsB bs)->Q .non H'
theorem scBP:FnScope ["self", "ins", "blocks", "outs"] ["self", "ins", "blocks", "outs"] (defScope (inClass (top 39) 0)):=⟨rfl,rfl,rfl,∅,rfl,∅,∅⟩
theorem zI (F:Fun K "__init__" "BlockPlayer.__init__" (inClass (top 39) 0) f fd) (cl:Cls K C) (nI:NoAttr K C "ins") (nB:NoAttr K C "blocks") (nO:NoAttr K C "outs") (nR:NoAttr K C "order") (nH:NoAttr K C "kept") (Dloose_order:DefOk P w K mg base CX0 k "loose_order" ["blocks"] spLO) (z_enumerate:mg "enumerate" = none) (z_dict:mg "dict" = none) :
  FnOk P w K mg base CX0 (k + 1) f fd ["self", "ins", "blocks", "outs"] (spBP C):=by
 have nd:=scBP.nd;refine F.ok scBP (fun vs H Q E h=>by obtain ⟨y,dx,bt,ot,ins,bs,os,rfl,_⟩:=h; rfl) (fun cdv A outer s H vs Q E hr h=>?_)
 obtain ⟨y,dx,bt,ot,ins,bs,os,rfl,hy,pk,ok,l40,q⟩:=h;obtain ⟨ps,hb0,bt0⟩:=pk.b;have lp:=BH bt0;refine ⟨_,(Pr.h (ah (bL (qv av39m0 0 rfl) (qv av39m0 1 rfl) rfl) (ah (bL (qv av39m0 0 rfl) (qv av39m0 2 rfl) rfl) (ah (bL (qv av39m0 0 rfl) (qv av39m0 3 rfl) rfl) (ah (bL (qv av39m0 0 rfl) (ao Dloose_order hr (gl39m0.g 0 rfl) pass0 (aa (qv av39m0 2 rfl) ab ae) pj) rfl) (ai (bL (qv av39m0 0 rfl) (aZ (gq rfl) (gl39m0.g 1 rfl) z_dict dP (aa (aR rfl jO (fA .tuple (gl39m0.g 2 rfl) z_enumerate (aa (qv av39m0 2 rfl) ab ae)) (fun _ _ _ _ _=>(bP K 2 rfl rfl (aw (aj (i:=0) jO.nd rfl (Or.inl (gU.k 0 rfl)) (Or.inr (gU.k 0 rfl))) (aw (aj (i:=1) jO.nd rfl (Or.inl (gU.k 1 rfl)) (Or.inr (gU.k 1 rfl))) ba)))) (fun _ _ _ _ _=>(dG (ax br (ak (cY K rfl) (qw jP 1 rfl) ag (fun _ _=>rfl)) ag (nomark _)))) (fun _ _ _ _ _=>(aN (aa (qw jP 0 rfl) (aa (ak (cY K rfl) (qw jP 1 rfl) ag (fun _ _=>rfl)) ab aS) ae)))) ab bc) dQ dS) rfl))))))),?_⟩
 (try dsimp only [cxOf])
 walk_at "rd";have c3:Ch [y] H (upd (upd (upd H y (.ins C dx (putF "ins" (.int (ins:Int)) []))) y (.ins C dx (putF "blocks" (.ref bt) (putF "ins" (.int (ins:Int)) [])))) y (.ins C dx (putF "outs" (.ref ot) (putF "blocks" (.ref bt) (putF "ins" (.int (ins:Int)) []))))):=(Ch.put.trans Ch.put).trans Ch.put;have g3:(upd (upd (upd H y (.ins C dx (putF "ins" (.int (ins:Int)) []))) y (.ins C dx (putF "blocks" (.ref bt) (putF "ins" (.int (ins:Int)) [])))) y (.ins C dx (putF "outs" (.ref ot) (putF "blocks" (.ref bt) (putF "ins" (.int (ins:Int)) []))))) y=some (.ins C dx (putF "outs" (.ref ot) (putF "blocks" (.ref bt) (putF "ins" (.int (ins:Int)) [])))):=af;generalize upd (upd (upd H y (.ins C dx (putF "ins" (.int (ins:Int)) []))) y (.ins C dx (putF "blocks" (.ref bt) (putF "ins" (.int (ins:Int)) [])))) y (.ins C dx (putF "outs" (.ref ot) (putF "blocks" (.ref bt) (putF "ins" (.int (ins:Int)) []))))=H3 at c3 g3 ⊢;have tu3:=Tu.ch c3 hy (fun _ z=>by cases z)
 have hb3:=tu3 _ _ hb0;have bt3:BsAt .tuple H3 bs ps:=aF (fun _ _ e=>BkAt.tu tu3 e) bt0
 refine ⟨(show SqX .tuple H3 bt (ps.map V.ref) from hb3),bt3,ok,by omega,fun p order H4 c4 hp0 hp4 kh=>?_⟩
 have g4:H4 y=some (.ins C dx (putF "outs" (.ref ot) (putF "blocks" (.ref bt) (putF "ins" (.int (ins:Int)) [])))):=c4.get g3 (by simp)
 walk_at "rd";have ny:p≠y:=aI hp4 g4 (by intro z; cases z)
 have c5:Ch [y] H (upd H4 y (.ins C dx (putF "order" (.ref p) (putF "outs" (.ref ot) (putF "blocks" (.ref bt) (putF "ins" (.int (ins:Int)) [])))))):=(c3.trans c4.wk).trans Ch.put;have g5:(upd H4 y (.ins C dx (putF "order" (.ref p) (putF "outs" (.ref ot) (putF "blocks" (.ref bt) (putF "ins" (.int (ins:Int)) [])))))) y=some (.ins C dx (putF "order" (.ref p) (putF "outs" (.ref ot) (putF "blocks" (.ref bt) (putF "ins" (.int (ins:Int)) []))))):=af;have p5:(upd H4 y (.ins C dx (putF "order" (.ref p) (putF "outs" (.ref ot) (putF "blocks" (.ref bt) (putF "ins" (.int (ins:Int)) [])))))) p=some (.lst (order.map nV)):=aB ny hp4;have h0:H p=none:=by
  cases e:H p with
  | none=>rfl
  | some o=>rw [c3.get e (by simpa using ny)] at hp0; cases hp0
 generalize upd H4 y (.ins C dx (putF "order" (.ref p) (putF "outs" (.ref ot) (putF "blocks" (.ref bt) (putF "ins" (.int (ins:Int)) [])))))=H5 at c5 g5 p5 ⊢;clear c4 g4 hp4 hp0 c3 g3 bt3 hb3 tu3;have tu5:=Tu.ch c5 hy (fun _ z=>by cases z)
 have hb5:=tu5 _ _ hb0;have bt5:BsAt .tuple H5 bs ps:=aF (fun _ _ e=>BkAt.tu tu5 e) bt0
 have kl:=qp bs;refine gm (ps.map V.ref) (fun i ys σ H'=>WC H5 H' ((List.range i).filter (kpB bs)) (fun n=>bV (fsB bs n)) ys/\∃ u v,σ=[u,v]) (by walk_at "sz") ⟨⟨Ch.refl _ _,[],rfl,.nil⟩,_,_,rfl⟩ ?_ ?_ ?_
 ·rintro i ys σ H' hi ⟨⟨c,ts,rfl,tt⟩,_⟩
  refine ⟨?_,SqT.of (c.get hb5 (by simp))⟩
  rw [BF,BH tt];unfold wD;rw [BF];exact B7 (CO _ _) (by rw [Cy]; exact BI _)
 ·rintro i ys σ H' z T hz ⟨⟨c,ts,rfl,tt⟩,u,v,rfl⟩ hT
  have hi:i < bs.length:=by have:=(BX.mp hz).1; rw [BF] at this; omega
  obtain ⟨pb,b,e1,e2,⟨lpp,_,hp,_⟩⟩:=fH bt5 i hi;rw [e1] at hz;cases hz;have hp1:H' pb=some (.tup [.ref lpp,.int b.bits,.int b.kept,.int b.first]):=c.get hp (by simp)
  have lo:=fM e2;have fs:=qk e2;have okb:=ok b (BO e2);rw [List.range_succ,Dy];walk_at "rd";refine ite2 (fun hc=>?_) (fun hc=>?_)
  ·have hk:b.kept=1:=by simpa using hc
   rw [hk] at lo;walk_at "rd";rename_i T2 hT2;refine ⟨⟨(c.trans (Ch.new hT _)).trans (Ch.new hT2 _),ts++[T2],by simp,?_⟩,_,_,rfl⟩
   have ef:V.int b.first=bV (fsB bs i):=by
    have f0:=okb.f0;have f1:=okb.f1;have:b.first=0\/b.first=1:=by omega
    rcases this with h | h <;> rw [fs,h] <;> rfl
   have eq:wD ((List.range i).filter (kpB bs)++[i].filter (kpB bs)) (fun n=>bV (fsB bs n))=wD ((List.range i).filter (kpB bs)) (fun n=>bV (fsB bs n))++[(.inl (i:Int),bV (fsB bs i))]:=by
    unfold wD; rw [BL]; simp [lo]
   rw [eq];refine fJ ?_ (dI ((Ch.new hT _).trans (Ch.new hT2 _)) tt);rw [af,ef];rfl
  ·have hk:b.kept≠1:=by simpa using hc
   refine ⟨⟨c.trans (Ch.new hT _),ts,rfl,?_⟩,_,_,rfl⟩;have eq:([i].filter (kpB bs))=[]:=by simp [lo,hk]
   rw [eq,C8];exact dI (Ch.new hT _) tt
 rintro ys σ H6 ⟨⟨c6,ts,rfl,tt⟩,_⟩;rw [BF,<- lp] at tt;intro D hD;have cD:Ch [] H6 (upd H6 D (.lst (ts.map V.ref))):=Ch.new hD _;refine ⟨D,ts,keptD bs (fsB bs),rfl,af,BH tt,fK (dI cD tt),gH (qo bs),?_,fun kd hkd=>?_⟩
 ·show (wD (keptOf bs) _).length<=_
  unfold wD; rw [BF,BR]; omega
 have cK:Ch [] H5 (upd (upd H6 D (.lst (ts.map V.ref))) kd (.dK (keptD bs (fsB bs)))):=(c6.trans cD).trans (Ch.new hkd _);have k0:H5 kd=none:=chFree (c6.trans cD) hkd;have gk:(upd (upd H6 D (.lst (ts.map V.ref))) kd (.dK (keptD bs (fsB bs)))) kd=some (.dK (keptD bs (fsB bs))):=af;generalize upd (upd H6 D (.lst (ts.map V.ref))) kd (.dK (keptD bs (fsB bs)))=H7 at cK gk ⊢;have g7:=cK.get g5 (by simp)
 walk_at "rd";have nk:kd≠y:=aI gk g7 (by intro z; cases z)
 have k00:H kd=none:=by
  cases e:H kd with
  | none=>rfl
  | some o=>rw [c5.get e (by simpa using nk)] at k0; cases k0
 have cF:Ch [y] H (upd H7 y (.ins C dx (fldsB ins bt ot p kd))):=(c5.trans cK.wk).trans Ch.put;exact q p kd order _ cF h0 k00 kh ⟨af,pk.tu (Tu.ch cF hy (fun _ z=>by cases z)),aB ny (cK.get p5 (by simp)),aB nk gk⟩
end
end

section
section
variable {P:Program}{w:World}{K:PySem.W.Frag}{mg:Str->Option Value}{base:Heap}{f:Addr}{fd:FuncData}{k:Nat}
theorem gl40m0:AG (defScope (inClass (top 40) 0)) ["BlockPlayer"]:=⟨∅⟩
theorem av40m0:AF (defScope (inClass (top 40) 0)) ["self", "pack"]:=⟨∅⟩
def spPP (CP C:Addr):Sp:=fun vs H Q _=>∃ (y dx x dn bt ot:Addr) (ins:Nat) (bs:List Bk) (os:List Src),vs=[.ref y,.ref x]/\H y=some (.ins C dx [])/\H x=some (.ins CP dn (fldsP ins bt ot))/\PkT H bt ot bs os/\(∀ b∈bs,b.ok ins bs.length)/\bs.length<=40 /\
 ∀ ol kd order H',Ch [y] H H'->H ol=none->H kd=none->Kahn (looseOf bs) (lsOf bs) order []->PlP C H' y dx ins bt ot ol kd bs os order (fsB bs)->Q .non H'
theorem scPP:FnScope ["self", "pack"] ["self", "pack"] (defScope (inClass (top 40) 0)):=⟨rfl,rfl,rfl,∅,rfl,∅,∅⟩
theorem zJ (F:Fun K "__init__" "PackPlayer.__init__" (inClass (top 40) 0) f fd) (clP:Cls K CP) (nI:NoAttr K CP "ins") (nB:NoAttr K CP "blocks") (nO:NoAttr K CP "outs") (KBlockPlayer___init__:ClsOk P w K mg base CX0 k "BlockPlayer" "__init__" ["self", "ins", "blocks", "outs"] (spBP C)) :
  FnOk P w K mg base CX0 (k + 1) f fd ["self", "pack"] (spPP CP C):=by
 have nd:=scPP.nd;refine F.ok scPP (fun vs H Q E h=>by obtain ⟨y,dx,x,dn,bt,ot,ins,bs,os,rfl,_⟩:=h; rfl) (fun cdv A outer s H vs Q E hr h=>?_)
 obtain ⟨y,dx,x,dn,bt,ot,ins,bs,os,rfl,hy,hx,pk,ok,l40,q⟩:=h;refine ⟨_,(Pr.h (ai (bp (x8 KBlockPlayer___init__ hr (gl40m0.g 0 rfl) pass0 (aa (qv av40m0 0 rfl) (aa (aH (qv av40m0 1 rfl) rfl) (aa (aH (qv av40m0 1 rfl) rfl) (aa (aH (qv av40m0 1 rfl) rfl) ab bH) bH) bH) ae))))),?_⟩
 (try dsimp only [cxOf])
 have f1:=@fp_i ins bt ot;have f2:=@fp_b ins bt ot;have f3:=@fp_o ins bt ot;walk_at "rd";rename_i ol kd order H' c h1 h2 kh pp;exact q ol kd order H' c h1 h2 kh pp
theorem av39m2:AF (defScope (inClass (top 39) 2)) ["self"]:=⟨∅⟩
theorem gl39m2:AG (defScope (inClass (top 39) 2)) ["list"]:=⟨∅⟩
def spHd (C:Addr):Sp:=fun vs H Q _=>∃ (y dx:Addr) (ins:Nat) (bt ot ol kd:Addr) (bs:List Bk) (os:List Src) (order:List Nat) (kv:Nat->Bool),vs=[.ref y]/\PlP C H y dx ins bt ot ol kd bs os order kv/\∀ r H',Ch [] H H'->H r=none->H' r=some (.lst (((keptOf bs).map kv).map bV))->Q (.ref r) H'
theorem scHd:FnScope ["self"] ["self"] (defScope (inClass (top 39) 2)):=⟨rfl,rfl,rfl,∅,rfl,∅,∅⟩
theorem zK (F:Fun K "held" "BlockPlayer.held" (inClass (top 39) 2) f fd) (cl:Cls K C) (nT:NoAttr K C "kept") (z_list:mg "list" = none):FnOk P w K mg base CX0 (k + 1) f fd ["self"] (spHd C):=by
 have nd:=scHd.nd;refine F.ok scHd (fun vs H Q E h=>by obtain ⟨y,dx,ins,bt,ot,ol,kd,bs,os,order,kv,rfl,_⟩:=h; rfl) (fun cdv A outer s H vs Q E hr h=>?_)
 obtain ⟨y,dx,ins,bt,ot,ol,kd,bs,os,order,kv,rfl,⟨hy,pk,ho,hk⟩,q⟩:=h;refine ⟨_,(Pr.h (ai (au (aZ (yd rfl) (gl39m2.g 0 rfl) z_list cm (aa (yb (aH (qv av39m2 0 rfl) rfl)) ab bf) cu cw)))),?_⟩
 (try dsimp only [cxOf])
 have f5:=@fb_k ins bt ot ol kd;walk_at "rd";refine ⟨.inr (.inr (.inl ⟨rfl,.inl ⟨_,hk⟩⟩)),kd,_,rfl,rfl,hk,fun v hv=>?_⟩
 refine ⟨v,kd,_,rfl,af,aA hv hk,fun l hl=>?_⟩
 refine q l _ ((Ch.new hv _).trans (Ch.new hl _)) (chFree (Ch.new hv _) hl) ?_;rw [af];unfold keptD wD;rw [CA,CA];rfl
end
end

section
structure Sol (bs:List Bk) (row:List Bool) (kv v:Nat->Bool):Prop where
 k:∀ n∈keptOf bs,v n=kv n
 l:∀ n b,bs[n]?=some b->b.kept=0->v n=bkV row v b
def nxV (bs:List Bk) (row:List Bool) (v:Nat->Bool) (n:Nat):Bool:=match bs[n]? with
 | some b=>bkV row v b
 | none=>false
theorem qq{row:List Bool}{v:Nat->Bool}{b:Bk} (h:bs[n]?=some b):nxV bs row v n=bkV row v b:=by unfold nxV; rw [h]
theorem zL{g:Nat->V} (h:n ∉ l):valV (wD l g) (.inl (n:Int))=none:=by
 induction l with
 | nil=>rfl
 | cons a r ih =>
  have h1:n≠a:=fun e=>h (by simp [e])
  have h2:n ∉ r:=fun e=>h (by simp [e])
  have ih:=ih h2;unfold wD at *;rw [B4,bX (by simp; omega)]
  exact ih
theorem qr{g:Nat->V} (h:n ∉ l):putK (wD l g) (.inl (n:Int)) (g n)=wD (l++[n]) g:=by
 have e:((wD l g).any fun kv=>decide (kv.1=.inl (n:Int)))=false:=by
  rw [List.any_eq_false];intro kv hkv;obtain ⟨a,ha,rfl⟩:=BQ.mp hkv;have:a≠n:=fun z=>h (z ▸ ha)
  simp; omega
 unfold putK;rw [if_neg (by rw [e]; exact B9)]
 unfold wD;rw [BL];rfl
theorem Ch.thaw{ob:Obj} (c:Ch [] (upd H d (.frz ob o)) H') (h:H d=some o):Ch [] H (upd H' d o):=fun b u e _=>by
 by_cases hb:b=d
 ·subst hb; rw [af,<- h,e]
 ·rw [aD hb]; exact c b u (by rw [aD hb]; exact e) (by simp)
theorem qt{ins len:Nat}{s:Src}{L:List Nat}{v:Nat->Bool} (hr:row.length=ins) (so:s.2 < lim ins len s.1) (hL:s.1=true->s.2∈L):(s.1=true->valV (wD L fun n=>bV (v n)) (.inl (s.2:Int))=some (bV (v s.2)))/\(s.1=false->s.2 < row.length):=by
 refine ⟨fun h=>fI (hL h),fun h=>?_⟩
 rw [h] at so;rw [hr];exact so
theorem qu {ins:Nat} (ok:∀ b∈bs,b.ok ins bs.length) (h:m < bs.length):(loB bs m=true/\m∈looseOf bs)\/m∈keptOf bs:=by
 have e:=BJ h;have okb:=ok _ (BO e);rcases okb.k with z | z
 ·have l:loB bs m=true:=by rw [eF e,z]; rfl
  exact .inl ⟨l,Cb.mpr ⟨Cj.mpr h,l⟩⟩
 ·exact .inr (Cb.mpr ⟨Cj.mpr h,by rw [fM e,z]; rfl⟩)
theorem qz {ins:Nat}{bs:List Bk}{b:Bk} (ok:∀ b∈bs,b.ok ins bs.length) (e:bs[n]?=some b) (hr:row.length=ins) (hk:∀ m∈keptOf bs,m∈L) (hl:∀ m∈lsOf bs n,m∈L):Knows row (wD L fun n=>bV (v n)) v b.ss:=fun s hs=>by
 have so:=(ok b (BO e)).so s hs;refine qt hr so fun h=>?_
 rw [h] at so;rcases qu ok (show s.2 < bs.length from so) with ⟨z,_⟩ | z
 ·refine hl _ ?_
  rw [jx e];exact BQ.mpr ⟨s,Cb.mpr ⟨hs,by simp [h,z]⟩,rfl⟩
 ·exact hk _ z
section
variable {P:Program}{w:World}{K:PySem.W.Frag}{mg:Str->Option Value}{base:Heap}{f:Addr}{fd:FuncData}{k:Nat}
local macro_rules | `(tactic| walk_at "user")=>`(tactic| first
 | (apply eY; (focus walk_at "get"); (focus with_reducible assumption))
 | (apply fC; (focus walk_at "get"); (focus with_reducible assumption))
 | (apply dputI; (focus walk_at "get"); (focus with_reducible assumption)))
theorem qA:Nd "ask_bits" := ∅
theorem zM:Nd "SILENCE" := ∅
theorem qB:Nd "block_bit" := ∅
theorem gl39m1:AG (defScope (inClass (top 39) 1)) ["ask_bits", "SILENCE", "dict", "list", "block_bit"]:=⟨∅⟩
theorem av39m1:AF (defScope (inClass (top 39) 1)) ["self", "row", "had", "number"]:=⟨∅⟩
def gV:Scope:={ kind:=PySem.ScopeKind.function,names:=[ (PySem.Str.ofString ".0",PySem.NameKind.local),(PySem.Str.ofString "number",PySem.NameKind.local),(PySem.Str.ofString "block_bit",PySem.NameKind.globalImplicit),(PySem.Str.ofString "had",PySem.NameKind.free),(PySem.Str.ofString "self",PySem.NameKind.free)],isGenerator:=false,isCoroutine:=false,more:=[]:PySem.Scope }
theorem qC:CompOk gV (defScope (inClass (top 39) 1)) (["number"]:List Str) (["self", "row", "had", "number"]:List Str) [0,2] (["number", "self", "had"]:List Str):=compOk rfl ∅ ∅ ∅ ∅ rfl ∅
theorem qD:AK (relab gV (defScope (inClass (top 39) 1))) ["number"]:=⟨∅⟩
theorem zN:AG (relab gV (defScope (inClass (top 39) 1))) ["block_bit"]:=⟨∅⟩
theorem gW:AV (relab gV (defScope (inClass (top 39) 1))) ["number", "self", "had"]:=⟨∅⟩
def jQ:Scope:={ kind:=PySem.ScopeKind.function,names:=[ (PySem.Str.ofString ".0",PySem.NameKind.local),(PySem.Str.ofString "word",PySem.NameKind.local),(PySem.Str.ofString "number",PySem.NameKind.local),(PySem.Str.ofString "had",PySem.NameKind.free)],isGenerator:=false,isCoroutine:=false,more:=[]:PySem.Scope }
theorem jR:CompOk jQ (defScope (inClass (top 39) 1)) (["word", "number"]:List Str) (["self", "row", "had", "number"]:List Str) [2] (["word", "number", "had"]:List Str):=compOk rfl ∅ ∅ ∅ ∅ rfl ∅
theorem gX:AK (relab jQ (defScope (inClass (top 39) 1))) ["word", "number"]:=⟨∅⟩
theorem jS:AV (relab jQ (defScope (inClass (top 39) 1))) ["word", "number", "had"]:=⟨∅⟩
structure SilK (K:PySem.W.Frag) (sa:Addr):Prop where
 t:∀ H,SqT K H sa [.str "none",.int 0]
structure PlOk (ins:Nat) (bs:List Bk) (os:List Src) (order:List Nat):Prop where
 b:∀ b∈bs,b.ok ins bs.length
 o:∀ s∈os,s.2 < lim ins bs.length s.1
 kh:Kahn (looseOf bs) (lsOf bs) order []
 al:∀ n∈looseOf bs,n∈order
 lb:bs.length<=40
 lo:os.length<=40
def spBt (C:Addr):Sp:=fun vs H Q _=>∃ (y dx r:Addr) (ins:Nat) (bt ot ol kd:Addr) (bs:List Bk) (os:List Src) (order:List Nat) (kv:Nat->Bool) (row:List Bool) (v:Nat->Bool),vs=[.ref y,.ref r]/\PlP C H y dx ins bt ot ol kd bs os order kv/\PlOk ins bs os order/\H r=some (.lst (row.map bV))/\row.length<=1000/\row.length=ins/\Sol bs row kv v /\
 ∀ res kd' H',Ch [y] H H'->H res=none->H kd'=none->res≠kd'->H' res=some (.lst ((os.map (srcV row v)).map bV))->PlP C H' y dx ins bt ot ol kd' bs os order (nxV bs row v)->Q (.ref res) H'
theorem scBt:FnScope ["self", "row", "had", "number"] ["self", "row"] (defScope (inClass (top 39) 1)):=⟨rfl,rfl,rfl,∅,rfl,∅,∅⟩
theorem zO {sa:Addr} (F:Fun K "beat" "BlockPlayer.beat" (inClass (top 39) 1) f fd) (cl:Cls K C) (nI:NoAttr K C "ins") (nB:NoAttr K C "blocks") (nO:NoAttr K C "outs") (nR:NoAttr K C "order") (nH:NoAttr K C "kept")
  (Dask_bits:DefOk P w K mg base CX0 k "ask_bits" ["row", "length"] spABits) (Dblock_bit:DefOk P w K mg base CX0 k "block_bit" ["block", "had"] spBB) (z_list:mg "list" = none) (z_dict:mg "dict" = none) (m_SILENCE:mg "SILENCE" = some (.ref sa)) (sil:SilK K sa):FnOk P w K mg base CX0 (k + 1) f fd ["self", "row"] (spBt C):=by
 have nd:=scBt.nd;refine F.ok scBt (fun vs H Q E h=>by obtain ⟨y,dx,r,ins,bt,ot,ol,kd,bs,os,order,kv,row,v,rfl,_⟩:=h; rfl) (fun cdv A outer s H vs Q E hr h=>?_)
 obtain ⟨y,dx,r,ins,bt,ot,ol,kd,bs,os,order,kv,row,v,rfl,⟨hy,pk,hol,hkd⟩,ok,hrow,hlen,el2,so,q⟩:=h;have hu:=di hr;refine ⟨_,(Pr.h (ah (bp (ao Dask_bits hr (gl39m1.g 0 rfl) pass0 (aa (qv av39m1 1 rfl) (aa (aH (qv av39m1 0 rfl) rfl) ab bH) ae) qA)) (ah (ay (i:=2) nd rfl (av39m1.l 2 rfl) (eV (bU aM (aZ dC (gl39m1.g 3 rfl) z_list cm (aa (qv av39m1 1 rfl) ab ae) cu cw) (bU aM (aZ x9 (gl39m1.g 2 rfl) z_dict dP (aa (aH (qv av39m1 0 rfl) rfl) ab bH) dQ dS) (bU (ak az (nh (v:=.ref _) (gl39m1.g 1 rfl) m_SILENCE rfl zM) ag (fun _ _=>rfl)) (bZ (aa ag ab aV)) eU))) rfl rfl (by intro z; cases z) (by decide))) (ah (bK Ci rfl (bj (aH (qv av39m1 0 rfl) rfl)) (aj (i:=3) nd rfl (av39m1.l 3 rfl)) (ai (jf hu (ck hu (qv av39m1 2 rfl) aM (fun _ _=>rfl)) (qv av39m1 3 rfl) (ao Dblock_bit hr (gl39m1.g 4 rfl) pass0 (aa (ak az (aH (qv av39m1 0 rfl) rfl) (qv av39m1 3 rfl) (fun _ _=>rfl)) (aa (qv av39m1 2 rfl) ab ae) aS) qB) rfl))) (ah (bL (qv av39m1 0 rfl) (aZ (gq rfl) (gl39m1.g 2 rfl) z_dict dP (aa (x6 (aR rfl qC (xY (aH (qv av39m1 0 rfl) rfl)) (fun _ _ _ _ _=>(aj (i:=0) qC.nd rfl (Or.inl (qD.k 0 rfl)) (Or.inr (qD.k 0 rfl)))) (fun _ _ _ _ _=>aU) (fun _ _ _ _ _=>(aN (aa (qw gW 0 rfl) (aa (ao Dblock_bit hr (zN.g 0 rfl) pass0 (aa (ak (cY K rfl) (xF K rfl (qw gW 1 rfl) rfl) (qw gW 0 rfl) (fun _ _=>rfl)) (aa (qw gW 2 rfl) ab ae) aS) qB) ab bf) ae))))) ab bc) dQ dS) rfl) (ai (au (aR rfl jR (cU (aH (qv av39m1 0 rfl) rfl)) (fun _ _ _ _ _=>(bP K 2 rfl rfl (aw (aj (i:=0) jR.nd rfl (Or.inl (gX.k 0 rfl)) (Or.inr (gX.k 0 rfl))) (aw (aj (i:=1) jR.nd rfl (Or.inl (gX.k 1 rfl)) (Or.inr (gX.k 1 rfl))) ba)))) (fun _ _ _ _ _=>aU) (fun _ _ _ _ _=>(ak (oA hu K rfl) (ck hu (qw jS 2 rfl) (qw jS 0 rfl) (fun _ _=>rfl)) (qw jS 1 rfl) (fun _ _=>rfl))))))))))),?_⟩
 (try dsimp only [cxOf])
 have f1:=@fb_i ins bt ot ol kd;have f2:=@fb_b ins bt ot ol kd;have f3:=@fb_o ins bt ot ol kd;have f4:=@fb_r ins bt ot ol kd;have f5:=@fb_k ins bt ot ol kd;walk_at "rd";rename_i H1 c1 d hd rl hrl bd hbd;refine ⟨sil.t _,Atx.of (v:=.str "none") rfl ?_⟩;walk_at "rd";rename_i zl hzl;refine ⟨(show _=List.map (fun kv=>(kV kv.1,kv.2)) (hadK rl bd zl) from rfl),(by show (3:Nat)<=15; decide),?_⟩
 rw [show mergeK [] (hadK rl bd zl)=hadK rl bd zl from rfl];have d0:H d=none:=chFree c1 hd;have c12:Ch [] H (upd H1 d (.dK [])):=c1.trans (Ch.new hd _);have hd2:(upd H1 d (.dK [])) d=some (.dK []):=af;generalize upd H1 d (.dK [])=H2 at c12 hd2 hrl hbd hzl ⊢;have b0:H bd=none:=chFree (c12.trans (Ch.new hrl _)) hbd;have c4:Ch [] H (upd (upd (upd (upd H2 rl (.lst (row.map bV))) bd (.dK (keptD bs kv))) zl (.lst [.int 0])) d (.dK (hadK rl bd zl))):=Ch.own d0 (((c12.trans (Ch.new hrl _)).trans (Ch.new hbd _)).trans (Ch.new hzl _));have dbd:d≠bd:=ar (aA hrl hd2) hbd;have h4:Hd (upd (upd (upd (upd H2 rl (.lst (row.map bV))) bd (.dK (keptD bs kv))) zl (.lst [.int 0])) d (.dK (hadK rl bd zl))) d rl bd zl row (keptD bs kv) :=
  ⟨af,aB (ar hd2 hrl).symm (aA hzl (aA hbd af)),aB dbd.symm (aA hzl af)⟩
 generalize upd (upd (upd (upd H2 rl (.lst (row.map bV))) bd (.dK (keptD bs kv))) zl (.lst [.int 0])) d (.dK (hadK rl bd zl))=H4 at c4 h4 ⊢;clear hd2 c1 c12 hd hrl hbd hzl hrow hlen;obtain ⟨ps,hbt,bts⟩:=pk.b;have lp:=BH bts;have lo40:=ok.lo;have lb40:=ok.lb;have hy4:=c4.get hy (by simp)
 have ho4:=c4.get hol (by simp)
 have kL:=ok.kh.le;have lL:(looseOf bs).length<=bs.length:=by
  have:=CO (loB bs) (List.range bs.length)
  rwa [Cy] at this
 have kl:=qp bs;walk_at "rd";have h4':Hd H4 d rl bd zl row (wD (keptOf bs++order.take 0) fun n=>bV (v n)):=by
  rw [List.take_zero,C8,pz (g':=fun n=>bV (kv n)) (fun n hn=>by rw [so.k n hn])]
  exact h4
 refine dM (xs:=order.map nV) (fun i σ H'=>Ch [] H H'/\Hd H' d rl bd zl row (wD (keptOf bs++order.take i) fun n=>bV (v n))/\∃ u,σ=[some (.ref y),some (.ref r),some (.ref d),u]) ⟨c4,h4',_,rfl⟩ ?_ ?_ ?_
 ·rintro i σ H' hi ⟨c,_⟩
  exact SqL.of (c.get hol (by simp))
 ·clear c4 h4 h4' hy4 ho4
  rintro i z σ H' hz ⟨c,hh,u,rfl⟩;rw [BN] at hz;obtain ⟨x,hx,rfl⟩:=B5.mp hz;have xo:=BO hx;have xl:=ok.kh.ol x xo;have xlt:=pD xl;obtain ⟨p,b,e1,e2,bk⟩:=gC bts x xlt;have bk:=BkAt.tu (Tu.same c) bk;have okb:=ok.b b (BO e2);have b0k:b.kept=0:=by
   have:=(Cb.mp xl).2;rw [eF e2] at this
   simpa using this
  have kn:Knows row (wD (keptOf bs++order.take i) fun n=>bV (v n)) v b.ss:=qz ok.b e2 el2 (fun m hm=>BP.mpr (.inl hm)) (fun m hm=>BP.mpr (.inr (ok.kh.tp i x hx m hm)))
  have vx:=so.l x b e2 b0k;have hdd:=hh.d;have hvb:valV (hadK rl bd zl) (.inr "block")=some (.ref bd):=rfl;have hyc:=c.get hy (by simp)
  have hbc:=c.get hbt (by simp)
  have nw:x ∉ keptOf bs++order.take i:=fun hm=>by
   rcases BP.mp hm with hm | hm
   ·have:=(Cb.mp hm).2
    rw [fM e2,b0k] at this;cases this
   ·obtain ⟨j,hj,ej⟩:=List.getElem_of_mem hm
    have hj2:j < i:=by rw [B8] at hj; omega
    have hi2:=(BX.mp hx).1;rw [List.getElem_take] at ej;have:=(List.getElem_inj (h₀:=by omega) (h₁:=hi2) ok.kh.no (i:=j) (j:=i)).mp (by rw [ej]; exact (BX.mp hx).2.symm)
    omega
  have hz2:(wD (keptOf bs++order.take i) fun n=>bV (v n)).length < sizeLine:=by
   unfold wD;rw [BF,BU,B8,BR];omega
  unfold nV;walk_at "rd";refine ⟨okb.s4,hh,kn,fun H6 c6=>?_⟩
  have h6:=hh.ch c6;have h6d:=h6.d;have h6b:=h6.b;rw [<- vx];clear hdd hyc hbc;walk_at "rd";rw [qr (g:=fun n=>bV (v n)) nw]
  have et:order.take (i + 1)=order.take i++[x]:=by rw [B0,hx]; rfl
  rw [et,<- C6];exact ⟨⟨aB dbd h6d,aB (aI h6.r h6b (by intro z; cases z)) h6.r,af⟩,_,rfl⟩
 ·rintro σ H5 ⟨c5,h5,u,rfl⟩
  rw [BF,B2] at h5;clear c4 h4 h4' hy4 ho4;have hy5:=c5.get hy (by simp)
  have hk5:=c5.get hkd (by simp)
  walk_at "rd";rename_i ob;have nyk:y≠kd:=aI hy5 hk5 (by intro z; cases z)
  have hf:Hd (upd H5 kd (.frz ob (.dK (keptD bs kv)))) d rl bd zl row (wD (keptOf bs++order) fun n=>bV (v n)) :=
   ⟨aB (ar hkd d0).symm h5.d,aB (aI h5.r hk5 (by intro z; cases z)) h5.r,aB (ar hkd b0).symm h5.b⟩
  have yf:(upd H5 kd (.frz ob (.dK (keptD bs kv)))) y=some (.ins C dx (fldsB ins bt ot ol kd)):=aB nyk hy5;have tuf:Tu H (upd H5 kd (.frz ob (.dK (keptD bs kv)))):=(Tu.same c5).trans (Tu.ch Ch.put hk5 (fun _ z=>by cases z))
  have kf:(upd H5 kd (.frz ob (.dK (keptD bs kv)))) kd=some (.frz ob (.dK (keptD bs kv))):=af;have thw:∀ H',Ch [] (upd H5 kd (.frz ob (.dK (keptD bs kv)))) H'->Ch [] H5 (upd H' kd (.dK (keptD bs kv))):=fun H' c=>Ch.thaw c hk5
  generalize upd H5 kd (.frz ob (.dK (keptD bs kv)))=HF at hf yf tuf kf thw ⊢;have kD:(keptD bs kv).length=(keptOf bs).length:=by unfold keptD wD; rw [BF]
  have hbF:=tuf _ _ hbt;have knw:∀ (n:Nat) (b:Bk),bs[n]?=some b->Knows row (wD (keptOf bs++order) fun n=>bV (v n)) v b.ss:=fun n b e=>qz ok.b e el2 (fun m hm=>BP.mpr (.inl hm)) (fun m hm=>BP.mpr (.inr (ok.al m (gI hm ins ok.b))))
  refine xZ (keptD bs kv) (fun i ys σ H'=>WC HF H' ((keptOf bs).take i) (fun n=>bV (nxV bs row v n)) ys/\∃ u,σ=[u,some (.ref y),some (.ref d)]) (by rw [BR,kD]; omega) ⟨⟨Ch.refl _ _,[],rfl,.nil⟩,_,rfl⟩ ?_ ?_ ?_
  ·rintro i ys σ H' hi ⟨⟨c,ts,rfl,tt⟩,_⟩
   refine ⟨?_,c.get kf (by simp)⟩
   rw [BF,BH tt];unfold wD;rw [BF,B8];omega
  ·rintro i ys σ H' kv' hkv ⟨⟨c,ts,rfl,tt⟩,u,rfl⟩
   unfold keptD wD at hkv;rw [BN] at hkv;obtain ⟨n,hn,rfl⟩:=B5.mp hkv;have hn2:=zG (BO hn);obtain ⟨p,b,e1,e2,bk⟩:=gC bts n hn2;have bk:=BkAt.tu (tuf.trans (Tu.same c)) bk;have okb:=ok.b b (BO e2);have hh:=hf.ch c;have yc:=c.get yf (by simp)
   have hbc:=c.get hbF (by simp)
   have kn:=knw n b e2;have nx:=qq (row:=row) (v:=v) e2
   dsimp only [kV]
   walk_at "rd";refine ⟨okb.s4,hh,kn,fun H6 c6=>?_⟩
   rw [<- nx];walk_at "rd";rename_i T hT;refine ⟨⟨(c.trans c6).trans (Ch.new hT _),ts++[T],by simp,?_⟩,_,rfl⟩
   rw [pE _ hn];refine fJ ?_ (dI (c6.trans (Ch.new hT _)) tt);rw [af];rfl
  rintro ys σ H6 ⟨⟨c6,ts,rfl,tt⟩,_⟩;rw [kD,B2] at tt;intro D hD;have kf6:=c6.get kf (by simp)
  refine ⟨kd,ob,keptD bs kv,aA hD kf6,(fun b u z=>by have z:H kd=some (.frz b u):=z; rw [hkd] at z; cases z),?_⟩
  have c7:=thw _ (c6.trans (Ch.new hD (.lst (ts.map V.ref))));have nDk:D≠kd:=(ar kf6 hD).symm;have d7:(upd (upd H6 D (.lst (ts.map V.ref))) kd (.dK (keptD bs kv))) D=some (.lst (ts.map V.ref)):=aB nDk af;have tu67:Tu H6 (upd (upd H6 D (.lst (ts.map V.ref))) kd (.dK (keptD bs kv))):=(Tu.new _ hD).trans (Tu.ch Ch.put (aA hD kf6) (fun _ z=>by cases z))
  have tt7:TsAt (upd (upd H6 D (.lst (ts.map V.ref))) kd (.dK (keptD bs kv))) ts (wD (keptOf bs) fun n=>bV (nxV bs row v n)):=aF (fun _ _ e=>tu67 _ _ e) tt
  generalize upd (upd H6 D (.lst (ts.map V.ref))) kd (.dK (keptD bs kv))=H7 at c7 d7 tt7 ⊢;clear tu67 hf yf tuf kf thw hbF kf6 c6 hD tt;walk_at "rd";refine ⟨BH tt7,fK tt7,gH (qo bs),(by unfold wD; rw [BF,BR]; omega),fun k2 hk2=>?_⟩
  have cK:Ch [] H5 (upd H7 k2 (.dK (keptD bs (nxV bs row v)))):=c7.trans (Ch.new hk2 _);have gk:(upd H7 k2 (.dK (keptD bs (nxV bs row v)))) k2=some (.dK (keptD bs (nxV bs row v))):=af;have k20:H k2=none:=chFree (c5.trans c7) hk2;generalize upd H7 k2 (.dK (keptD bs (nxV bs row v)))=H8 at cK gk ⊢;have h8:=h5.ch cK;have y8:=cK.get hy5 (by simp)
  have c58:=c5.trans cK;have nk:k2≠y:=(ar hy k20).symm;clear c7 d7 tt7 hk2 h5 hy5 hk5 cK;walk_at "rd";rw [zH];have c9:Ch [y] H8 (upd H8 y (.ins C dx (fldsB ins bt ot ol k2))):=Ch.put;have y9:(upd H8 y (.ins C dx (fldsB ins bt ot ol k2))) y=some (.ins C dx (fldsB ins bt ot ol k2)):=af;have g9:(upd H8 y (.ins C dx (fldsB ins bt ot ol k2))) k2=some (.dK (keptD bs (nxV bs row v))):=aB nk gk;have h9:Hd (upd H8 y (.ins C dx (fldsB ins bt ot ol k2))) d rl bd zl row (wD (keptOf bs++order) fun n=>bV (v n)) :=
   ⟨aB (aI h8.d y8 (by intro z; cases z)) h8.d,aB (aI h8.r y8 (by intro z; cases z)) h8.r,aB (aI h8.b y8 (by intro z; cases z)) h8.b⟩
  generalize upd H8 y (.ins C dx (fldsB ins bt ot ol k2))=H9 at c9 y9 g9 h9 ⊢;have cF:Ch [y] H H9:=c58.wk.trans c9;have tuF:=Tu.ch cF hy (fun _ z=>by cases z)
  obtain ⟨ops,hot,ops2⟩:=pk.o;have hot9:=tuF _ _ hot;have lops:=BH ops2;rw [BF] at lops;have o9:H9 ol=some (.lst (order.map nV)):=cF.get hol (by have:=aI hol hy (by intro z; cases z); simpa using this)
  have f3:=@fb_o ins bt ot ol k2;have h9d:=h9.d;walk_at "rd";refine dm (ops.map V.ref) (fun j ys σ H''=>H''=H9/\ys=((os.take j).map (srcV row v)).map bV/\∃ u v,σ=[u,v,some (.ref d)]) (by walk_at "sz") ⟨rfl,rfl,_,_,rfl⟩ ?_ ?_ ?_
  ·rintro j ys σ H'' hj ⟨rfl,rfl,_⟩
   refine ⟨?_,SqT.of hot9⟩;rw [BF,BF]; exact Ds _ _
  ·rintro j ys σ H'' z hz ⟨rfl,rfl,u,v',rfl⟩
   obtain ⟨pl,xx,rfl,g1,g2⟩:=bq ops2 j z hz;rw [BN] at g1;obtain ⟨sr,es,rfl⟩:=B5.mp g1;have so2:=ok.o sr (BO es);have et:os.take (j + 1)=os.take j++[sr]:=by rw [B0,es]; rfl
   rw [et,BL,BL];have g2:H'' pl=some (.tup [.str (wd sr.1),.int (sr.2:Int)]):=tuF _ _ g2;have vw:=qg (rl:=rl) (bd:=bd) (zl:=zl) sr;have kn:=qt (v:=v) (L:=keptOf bs++order) el2 so2 (fun h=>by
    rw [h] at so2;rcases qu ok.b (show sr.2 < bs.length from so2) with ⟨_,z⟩ | z
    ·exact BP.mpr (.inr (ok.al _ z))
    ·exact BP.mpr (.inl z))
   walk_at "rd";refine qj h9 kn ?_;exact ⟨rfl,by simp,_,_,rfl⟩
  ·rintro ys σ HZ ⟨rfl,rfl,_⟩
   intro R hR;rw [BF,<- lops,B2];have cR:Ch [] HZ (upd HZ R (.lst ((os.map (srcV row v)).map bV))):=Ch.new hR _;have hR0:H R=none:=by
    cases e:H R with
    | none=>rfl
    | some o=>rw [cF.get e (by have:=ar y9 hR; simpa using this.symm)] at hR; cases hR
   exact q R k2 _ (cF.trans cR.wk) hR0 k20 (ar g9 hR).symm af ⟨cR.get y9 (by simp),(pk.tu tuF).tu (Tu.same cR),cR.get o9 (by simp),cR.get g9 (by simp)⟩
end
end

section
local macro_rules | `(tactic| walk_at "user")=>`(tactic| first
 | (apply fC; (focus walk_at "get"); (focus with_reducible assumption))
 | (apply eY; (focus walk_at "get"); (focus with_reducible assumption)))
inductive Wd
 | i
 | k
 | t
def Wd.s:Wd->Str
 | .i => "in"
 | .k => "keep"
 | .t => "table"
abbrev Plc:=Wd × Nat
def plK (p:Plc):Wr:=[.inr p.1.s,.inl (p.2:Int)]
def lim6 (a b c:Nat):Wd->Nat
 | .i=>a
 | .k=>b
 | .t=>c
def cntK6 (a b c:Nat):List (Key × V):=[(.inr "in",.int (a:Int)),(.inr "keep",.int (b:Int)),(.inr "table",.int (c:Int))]
theorem jT (a b c:Nat) (x:Wd):valV (cntK6 a b c) (.inr x.s)=some (.int (lim6 a b c x:Int)):=by cases x <;> rfl
theorem cP{ps:List Addr} (s:WsAt H (ls.map plK) ps) (i:Nat) (v:V) (h:(ps.map V.ref)[i]?=some v):∃ p x,v=.ref p/\ls[i]?=some x/\H p=some (.tup [.str x.1.s,.int (x.2:Int)]):=by
 obtain ⟨p,k,e1,e2,e3⟩:=bq s i v h;rw [BN] at e2;obtain ⟨x,ex,rfl⟩:=B5.mp e2;exact ⟨p,x,e1,ex,e3⟩
theorem zP {a b c:Nat} (h:∀ p∈ls,p.2 < lim6 a b c p.1):∀ k∈ls.map plK,FitK (cntK6 a b c) k:=fun k hk=>by
 obtain ⟨s,hs,rfl⟩:=BQ.mp hk;exact ⟨_,_,_,rfl,jT a b c s.1,Dw _,Int.ofNat_lt.mpr (h s hs)⟩
structure Tb where
 ls:List Plc
 bits:Int
structure Tb.ok (a b c:Nat) (t:Tb):Prop where
 l4:t.ls.length<=4
 lo:∀ p∈t.ls,p.2 < lim6 a b c p.1
 b0:0<=t.bits
 b1:t.bits < room t.ls.length
structure Kp where
 f:Bool
 pl:Plc
def TbL (ex:List Addr) (H:Hp) (t:Tb) (p:Addr):Prop:=∃ (lp:Addr) (ps:List Addr),lp ∉ ex/\H p=some (.tup [.ref lp,.int t.bits])/\H lp=some (.lst (ps.map V.ref))/\WsAt H (t.ls.map plK) ps
def TbT (H:Hp) (t:Tb) (p:Addr):Prop:=∃ (lp:Addr) (ps:List Addr),H p=some (.tup [.ref lp,.int t.bits])/\H lp=some (.tup (ps.map V.ref))/\WsAt H (t.ls.map plK) ps
def KpAt (H:Hp) (k:Kp) (p:Addr):Prop:=∃ pp,H p=some (.tup [bV k.f,.ref pp])/\H pp=some (.tup [.str k.pl.1.s,.int (k.pl.2:Int)])
structure Kl (ex:List Addr) (H H':Hp):Prop where
 t:Tu H H'
 l:∀ p xs,p ∉ ex->H p=some (.lst xs)->H' p=some (.lst xs)
theorem Kl.new {ex:List Addr} (c:Ch [] H H'):Kl ex H H':=⟨Tu.same c,fun p xs _ h=>c.get h (by simp)⟩
theorem Kl.one {ex:List Addr}{b:Addr}{zs:List V} (c:Ch [b] H H') (hb:H b=some (.lst zs)) (m:b∈ex):Kl ex H H':=⟨Tu.lst c hb,fun p xs n h=>c.get h (fun z=>n (by rw [B6.mp z]; exact m))⟩
theorem Kl.ob{y C d:Addr}{fs:List (Str × V)} (c:Ch [y] H H') (hy:H y=some (.ins C d fs)):Kl ex H H':=⟨Tu.ch c hy (fun _ z=>by cases z),fun p xs _ h=>c.get h (by simpa using aI h hy (by intro z; cases z))⟩
theorem Kl.trans{H1:Hp} (a:Kl ex H H1) (b:Kl ex H1 H2):Kl ex H H2:=⟨a.t.trans b.t,fun p xs n h=>b.l p xs n (a.l p xs n h)⟩
theorem TbL.kl{H:Hp} (k:Kl ex H H'){p:Addr} (s:TbL ex H t p):TbL ex H' t p:=let ⟨lp,ps,n,a,b,w⟩:=s; ⟨lp,ps,n,k.t _ _ a,k.l _ _ n b,WsAt.tu k.t w⟩
theorem TbT.tu {H:Hp} (k:Tu H H'){p:Addr} (s:TbT H t p):TbT H' t p:=let ⟨lp,ps,a,b,w⟩:=s; ⟨lp,ps,k _ _ a,k _ _ b,WsAt.tu k w⟩
theorem KpAt.tu {H:Hp} (k:Tu H H') {t:Kp}{p:Addr} (s:KpAt H t p):KpAt H' t p:=let ⟨pp,a,b⟩:=s; ⟨pp,k _ _ a,k _ _ b⟩
section
variable {P:Program}{w:World}{K:PySem.W.Frag}{mg:Str->Option Value}{base:Heap}{f:Addr}{fd:FuncData}{k:Nat}
theorem gl15:AG (defScope (top 15)) ["is_place", "is_below", "len", "isinstance", "tuple"]:=⟨∅⟩
theorem av15:AF (defScope (top 15)) ["thing", "counts"]:=⟨∅⟩
def spKeep:Sp:=fun vs H Q _=>∃ (p cd:Addr) (a b c:Nat) (t:Kp),vs=[.ref p,.ref cd]/\KpAt H t p/\H cd=some (.dK (cntK6 a b c))/\t.pl.2 < lim6 a b c t.pl.1/\Q (.bl true) H
theorem scKeep:FnScope ["thing", "counts"] ["thing", "counts"] (defScope (top 15)):=⟨rfl,rfl,rfl,∅,rfl,∅,∅⟩
theorem zQ (F:Fun K "is_keep" "is_keep" (top 15) f fd) (Dis_below:DefOk P w K mg base CX0 k "is_below" ["thing", "bound"] spBelow) (Dis_place:DefOk P w K mg base CX0 k "is_place" ["thing", "counts"] spPlace) (z_isinstance:mg "isinstance" = none) (z_tuple:mg "tuple" = none) (z_len:mg "len" = none):FnOk P w K mg base CX0 (k + 1) f fd ["thing", "counts"] spKeep:=by
 have nd:=scKeep.nd;refine F.ok scKeep (fun vs H Q E h=>by obtain ⟨p,cd,a,b,c,t,rfl,_⟩:=h; rfl) (fun cdv A outer s H vs Q E hr h=>?_)
 obtain ⟨p,cd,a,b,c,t,rfl,⟨pp,hp,hpp⟩,hc,hl,q⟩:=h;obtain ⟨z0,z1⟩:=bi01 t.f;unfold bV at hp;have cv:=jT a b c t.pl.1;have h0:(0:Int)<=(t.pl.2:Int):=Dw _;have h1:(t.pl.2:Int) < (lim6 a b c t.pl.1:Int):=Int.ofNat_lt.mpr hl;refine ⟨_,(Pr.h (ai (au (bY (aq bI (gl15.g 3 rfl) z_isinstance bA (aa (qv av15 0 rfl) (aa (bw (v:=.ty "tuple") (gl15.g 4 rfl) z_tuple bD rfl bE bF) ab)) bB bC) (bY (cS br (aq aJ (gl15.g 2 rfl) z_len BY (aa (qv av15 0 rfl) ab ae) aK aL) ag (nomark _)) (bY (ao Dis_below hr (gl15.g 1 rfl) pass0 (aa (ak az (qv av15 0 rfl) ag (fun _ _=>rfl)) (aa ag ab aV) aS) e6) (cJ (ao Dis_place hr (gl15.g 0 rfl) pass0 (aa (ak az (qv av15 0 rfl) ag (fun _ _=>rfl)) (aa (qv av15 1 rfl) ab ae) aS) fG)))))))),?_⟩
 (try dsimp only [cxOf])
 walk_at "rd"
end
end

section
structure Okd (ins:Nat) (ts:List Tb) (ks:List Kp) (os:List Plc):Prop where
 t:∀ (i:Nat) (t:Tb),ts[i]?=some t->t.ok ins ks.length i
 k:∀ x∈ks,x.pl.2 < lim6 ins ks.length ts.length x.pl.1
 o:∀ x∈os,x.2 < lim6 ins ks.length ts.length x.1
 li:ins<=12
 lt:ts.length<=12
 lk:ks.length<=12
 lo:os.length<=12
structure DrAt (ex:List Addr) (H:Hp) (tl kl ol:Addr) (ts:List Tb) (ks:List Kp) (os:List Plc):Prop where
 t:tl ∉ ex/\∃ ps,H tl=some (.lst (ps.map V.ref))/\Paired (TbL ex H) ts ps
 k:kl ∉ ex/\∃ ps,H kl=some (.lst (ps.map V.ref))/\Paired (KpAt H) ks ps
 o:ol ∉ ex/\∃ ps,H ol=some (.lst (ps.map V.ref))/\WsAt H (os.map plK) ps
theorem DrAt.kl{H:Hp}{kl:Addr} (s:DrAt ex H tl kl ol ts ks os) (k:Kl ex H H'):DrAt ex H' tl kl ol ts ks os :=
 ⟨⟨s.t.1,let ⟨ps,a,b⟩:=s.t.2; ⟨ps,k.l _ _ s.t.1 a,aF (fun _ _=>TbL.kl k) b⟩⟩,⟨s.k.1,let ⟨ps,a,b⟩:=s.k.2; ⟨ps,k.l _ _ s.k.1 a,aF (fun _ _=>KpAt.tu k.t) b⟩⟩,⟨s.o.1,let ⟨ps,a,b⟩:=s.o.2; ⟨ps,k.l _ _ s.o.1 a,WsAt.tu k.t b⟩⟩⟩
theorem DrAt.ch{H:Hp}{kl:Addr} (s:DrAt ex H tl kl ol ts ks os) (c:Ch [] H H'):DrAt ex H' tl kl ol ts ks os:=s.kl (Kl.new c)
structure Tp (H:Hp) (tt kt ot:Addr) (ts:List Tb) (ks:List Kp) (os:List Plc):Prop where
 t:∃ ps,H tt=some (.tup (ps.map V.ref))/\Paired (TbT H) ts ps
 k:∃ ps,H kt=some (.tup (ps.map V.ref))/\Paired (KpAt H) ks ps
 o:∃ ps,H ot=some (.tup (ps.map V.ref))/\WsAt H (os.map plK) ps
theorem Tp.tu {H:Hp} (s:Tp H tt kt ot ts ks os) (k:Tu H H'):Tp H' tt kt ot ts ks os :=
 ⟨let ⟨ps,a,b⟩:=s.t; ⟨ps,k _ _ a,aF (fun _ _=>TbT.tu k) b⟩,let ⟨ps,a,b⟩:=s.k; ⟨ps,k _ _ a,aF (fun _ _=>KpAt.tu k) b⟩,let ⟨ps,a,b⟩:=s.o; ⟨ps,k _ _ a,WsAt.tu k b⟩⟩
def fldsT (ins:Nat) (tt kt ot:Addr):List (Str × V):=[("ins",.int (ins:Int)),("tables",.ref tt),("keeps",.ref kt),("outs",.ref ot)]
def fldsY (ins:Nat) (tt kt ot kl:Addr):List (Str × V):=[("ins",.int (ins:Int)),("tables",.ref tt),("keeps",.ref kt),("outs",.ref ot),("kept",.ref kl)]
section
variable {ins:Nat}{tt kt ot kl:Addr}
theorem ft_i:List.lookup (Str.ofString "ins") (fldsT ins tt kt ot)=some (.int (ins:Int)):=rfl
theorem ft_t:List.lookup (Str.ofString "tables") (fldsT ins tt kt ot)=some (.ref tt):=rfl
theorem ft_k:List.lookup (Str.ofString "keeps") (fldsT ins tt kt ot)=some (.ref kt):=rfl
theorem ft_o:List.lookup (Str.ofString "outs") (fldsT ins tt kt ot)=some (.ref ot):=rfl
theorem fy_i:List.lookup (Str.ofString "ins") (fldsY ins tt kt ot kl)=some (.int (ins:Int)):=rfl
theorem fy_t:List.lookup (Str.ofString "tables") (fldsY ins tt kt ot kl)=some (.ref tt):=rfl
theorem fy_k:List.lookup (Str.ofString "keeps") (fldsY ins tt kt ot kl)=some (.ref kt):=rfl
theorem fy_o:List.lookup (Str.ofString "outs") (fldsY ins tt kt ot kl)=some (.ref ot):=rfl
theorem fy_h:List.lookup (Str.ofString "kept") (fldsY ins tt kt ot kl)=some (.ref kl):=rfl
theorem zR {kl':Addr}:putF "kept" (.ref kl') (fldsY ins tt kt ot kl)=fldsY ins tt kt ot kl':=rfl
end
structure TlAt (C:Addr) (H:Hp) (x:Addr) (ins:Nat) (tt kt ot:Addr) (ts:List Tb) (ks:List Kp) (os:List Plc):Prop where
 ob:∃ dx,H x=some (.ins C dx (fldsT ins tt kt ot))
 tp:Tp H tt kt ot ts ks os
structure PlAt (C:Addr) (H:Hp) (y:Addr) (ins:Nat) (tt kt ot kl:Addr) (ts:List Tb) (ks:List Kp) (os:List Plc) (kept:List Bool):Prop where
 ob:∃ dx,H y=some (.ins C dx (fldsY ins tt kt ot kl))
 tp:Tp H tt kt ot ts ks os
 kl:H kl=some (.lst (kept.map bV))
 kn:kept.length=ks.length
structure BC6 (H0 H':Hp) (ts:List Tb) (ys:List V):Prop where
 ch:Ch [] H0 H'
 ex:∃ us:List Addr,ys=us.map V.ref/\Paired (TbT H') ts us
end

section
section
variable {P:Program}{w:World}{K:PySem.W.Frag}{mg:Str->Option Value}{base:Heap}{f:Addr}{fd:FuncData}{k:Nat}
theorem zS:Nd "is_keep" := ∅
theorem av16:AF (defScope (top 16)) ["ins", "tables", "keeps", "outs", "counts", "number", "table"]:=⟨∅⟩
theorem gl16:AG (defScope (top 16)) ["is_whole", "is_listed", "len", "enumerate", "is_table", "all"]:=⟨∅⟩
def gY:Scope:={ kind:=PySem.ScopeKind.function,names:=[ (PySem.Str.ofString ".0",PySem.NameKind.local),(PySem.Str.ofString "keep",PySem.NameKind.local),(PySem.Str.ofString "is_keep",PySem.NameKind.globalImplicit),(PySem.Str.ofString "counts",PySem.NameKind.free)],isGenerator:=false,isCoroutine:=false,more:=[]:PySem.Scope }
theorem qE:CompOk gY (defScope (top 16)) (["keep"]:List Str) (["ins", "tables", "keeps", "outs", "counts", "number", "table"]:List Str) [4] (["keep", "counts"]:List Str):=compOk rfl ∅ ∅ ∅ ∅ rfl ∅
theorem qF:AK (relab gY (defScope (top 16))) ["keep"]:=⟨∅⟩
theorem zT:AG (relab gY (defScope (top 16))) ["is_keep"]:=⟨∅⟩
theorem qG:AV (relab gY (defScope (top 16))) ["keep", "counts"]:=⟨∅⟩
def gZ:Scope:={ kind:=PySem.ScopeKind.function,names:=[ (PySem.Str.ofString ".0",PySem.NameKind.local),(PySem.Str.ofString "out",PySem.NameKind.local),(PySem.Str.ofString "is_place",PySem.NameKind.globalImplicit),(PySem.Str.ofString "counts",PySem.NameKind.free)],isGenerator:=false,isCoroutine:=false,more:=[]:PySem.Scope }
theorem qH:CompOk gZ (defScope (top 16)) (["out"]:List Str) (["ins", "tables", "keeps", "outs", "counts", "number", "table"]:List Str) [4] (["out", "counts"]:List Str):=compOk rfl ∅ ∅ ∅ ∅ rfl ∅
theorem qI:AK (relab gZ (defScope (top 16))) ["out"]:=⟨∅⟩
theorem zU:AG (relab gZ (defScope (top 16))) ["is_place"]:=⟨∅⟩
theorem qJ:AV (relab gZ (defScope (top 16))) ["out", "counts"]:=⟨∅⟩
def spAsk:Sp:=fun vs H Q _=>∃ (ex:List Addr) (tl kl ol:Addr) (ins:Nat) (ts:List Tb) (ks:List Kp) (os:List Plc),vs=[.int (ins:Int),.ref tl,.ref kl,.ref ol]/\DrAt ex H tl kl ol ts ks os/\Okd ins ts ks os/\∀ H',Ch [] H H'->Q .non H'
theorem scAsk6:FnScope ["ins", "tables", "keeps", "outs", "counts", "number", "table"] ["ins", "tables", "keeps", "outs"] (defScope (top 16)):=⟨rfl,rfl,rfl,∅,rfl,∅,∅⟩
theorem zV (F:Fun K "ask_tables" "ask_tables" (top 16) f fd) (Dis_whole:DefOk P w K mg base CX0 k "is_whole" ["thing"] spWhole) (Dis_listed:DefOk P w K mg base CX0 k "is_listed" ["thing"] spListed) (Dis_table:DefOk P w K mg base CX0 k "is_table" ["thing", "counts"] spTable) (Dis_keep:DefOk P w K mg base CX0 k "is_keep" ["thing", "counts"] spKeep) (Dis_place:DefOk P w K mg base CX0 k "is_place" ["thing", "counts"] spPlace) (z_len:mg "len" = none) (z_all:mg "all" = none) (z_enumerate:mg "enumerate" = none):FnOk P w K mg base CX0 (k + 1) f fd ["ins", "tables", "keeps", "outs"] spAsk:=by
 have nd:=scAsk6.nd;refine F.ok scAsk6 (fun vs H Q E h=>by obtain ⟨ex,tl,kl,ol,ins,ts,ks,os,rfl,_⟩:=h; rfl) (fun cdv A outer s H vs Q E hr h=>?_)
 obtain ⟨ex,tl,kl,ol,ins,ts,ks,os,rfl,dr,ok,q⟩:=h;have hu:=di hr;obtain ⟨nt,tps,ht,tt⟩:=dr.t;obtain ⟨nk,kps,hk,kk⟩:=dr.k;obtain ⟨no,ops,ho,oo⟩:=dr.o;have lt:=BH tt;have lk:=BH kk;have lo:=BH oo;rw [BF] at lo;have t12:=ok.lt;have k12:=ok.lk;have o12:=ok.lo;have x1:SqX .list H tl (tps.map V.ref):=ht;have x2:∀ {H'},Ch [] H H'->SqX .list H' kl (kps.map V.ref):=fun c=>c.get hk (by simp)
 have x3:∀ {H'},Ch [] H H'->SqX .list H' ol (ops.map V.ref):=fun c=>c.get ho (by simp)
 refine ⟨_,(Pr.h (ah (aC (bz (bg (aX (aO (ao Dis_whole hr (gl16.g 0 rfl) pass0 (aa (qv av16 0 rfl) ab ae) jt))) (bJ (ax eO (qv av16 0 rfl) ag (nomark _))))) (ai cO) aE) (ah (aC (bz (bg (aX (aO (ao Dis_listed hr (gl16.g 1 rfl) pass0 (aa (qv av16 1 rfl) ab ae) dH))) (bg (aX (aO (ao Dis_listed hr (gl16.g 1 rfl) pass0 (aa (qv av16 2 rfl) ab ae) dH))) (bJ (aX (aO (ao Dis_listed hr (gl16.g 1 rfl) pass0 (aa (qv av16 3 rfl) ab ae) dH))))))) (ai cO) aE) (ah (ay (i:=4) nd rfl (av16.l 4 rfl) (eV (bU aM (qv av16 0 rfl) (bU aM (aq aJ (gl16.g 2 rfl) z_len BY (aa (qv av16 2 rfl) ab ae) aK aL) (bU aM (aq aJ (gl16.g 2 rfl) z_len BY (aa (qv av16 1 rfl) ab ae) aK aL) eU))) rfl rfl (by intro z; cases z) (by decide))) (ah (bK Ci rfl (fA .list (gl16.g 3 rfl) z_enumerate (aa (qv av16 1 rfl) ab ae)) (cN rfl (aw (aj (i:=5) nd rfl (av16.l 5 rfl)) (aw (aj (i:=6) nd rfl (av16.l 6 rfl)) ba))) (ai (aC (aX (aO (ao Dis_table hr (gl16.g 4 rfl) pass0 (aa (qv av16 6 rfl) (aa (eV (bU aM (qv av16 0 rfl) (bU aM (aq aJ (gl16.g 2 rfl) z_len BY (aa (qv av16 2 rfl) ab ae) aK aL) (bU aM (qv av16 5 rfl) eU))) rfl rfl (by intro z; cases z) (by decide)) ab wG) ae) o7))) (ai cO) aE))) (ah (aC (aX (aO (aq (cX rfl) (gl16.g 5 rfl) z_all cZ (aa (aR rfl qE (bj (qv av16 2 rfl)) (fun _ _ _ _ _=>(aj (i:=0) qE.nd rfl (Or.inl (qF.k 0 rfl)) (Or.inr (qF.k 0 rfl)))) (fun _ _ _ _ _=>aU) (fun _ _ _ _ _=>(ao Dis_keep hr (zT.g 0 rfl) pass0 (aa (qw qG 0 rfl) (aa (qw qG 1 rfl) ab ae) ae) zS))) ab bc) dc de))) (ai cO) aE) (ai (aC (aX (aO (aq (cX rfl) (gl16.g 5 rfl) z_all cZ (aa (aR rfl qH (bj (qv av16 3 rfl)) (fun _ _ _ _ _=>(aj (i:=0) qH.nd rfl (Or.inl (qI.k 0 rfl)) (Or.inr (qI.k 0 rfl)))) (fun _ _ _ _ _=>aU) (fun _ _ _ _ _=>(ao Dis_place hr (zU.g 0 rfl) pass0 (aa (qw qJ 0 rfl) (aa (qw qJ 1 rfl) ab ae) ae) fG))) ab bc) dc de))) (ai cO) aE)))))))),?_⟩
 (try dsimp only [cxOf])
 walk_at "rd";rename_i H1 c1;refine ⟨x2 c1,fun H2 c2=>?_⟩
 walk_at "rd";refine ⟨x3 (c1.trans c2),fun H3 c3=>?_⟩
 have c03:=(c1.trans c2).trans c3;clear c1 c2 c3 x1 x2 x3;have ht3:H3 tl=some (.lst (tps.map V.ref)):=c03.get ht (by simp)
 have hk3:H3 kl=some (.lst (kps.map V.ref)):=c03.get hk (by simp)
 have ho3:H3 ol=some (.lst (ops.map V.ref)):=c03.get ho (by simp)
 walk_at "rd";rename_i cd hcd;refine ⟨(show _=List.map (fun kv=>(kV kv.1,kv.2)) (cntK6 ins ks.length ts.length) from by rw [BF,BF,<- lt,<- lk]; rfl),(by show (3:Nat)<=15; decide),?_⟩
 have em:mergeK [] (cntK6 ins ks.length ts.length)=cntK6 ins ks.length ts.length:=rfl;rw [em];have c4:Ch [] H3 (upd (upd H3 cd (.dK [])) cd (.dK (cntK6 ins ks.length ts.length))):=Ch.own hcd (Ch.new hcd _);have g4:(upd (upd H3 cd (.dK [])) cd (.dK (cntK6 ins ks.length ts.length))) cd=some (.dK (cntK6 ins ks.length ts.length)):=af;have c04:=c03.trans c4;generalize upd (upd H3 cd (.dK [])) cd (.dK (cntK6 ins ks.length ts.length))=H4 at c4 g4 c04 ⊢;clear ht3 hk3 ho3 c4 hcd c03;have ht4:H4 tl=some (.lst (tps.map V.ref)):=c04.get ht (by simp)
 walk_at "rd";refine xn (xs:=tps.map V.ref) (fun i σ H'=>Ch [] H4 H'/\∃ u v,σ=[some (.int (ins:Int)),some (.ref tl),some (.ref kl),some (.ref ol),some (.ref cd),u,v]) ⟨Ch.refl _ _,_,_,rfl⟩ ?_ ?_ ?_
 ·rintro i σ H' hi ⟨c,_⟩
  exact SqL.of (c.get ht4 (by simp))
 ·rintro i x σ H' T hx ⟨c,u,v,rfl⟩ hT
  obtain ⟨p,t,rfl,et,tp⟩:=bq tt i x hx;have okt:=ok.t i t et;have cT:Ch [] H (upd H' T (.tup [.int (i:Int),.ref p])):=(c04.trans c).trans (Ch.new hT _);have hk5:(upd H' T (.tup [.int (i:Int),.ref p])) kl=some (.lst (kps.map V.ref)):=cT.get hk (by simp)
  have gT:(upd H' T (.tup [.int (i:Int),.ref p])) T=some (.tup [.int (i:Int),.ref p]):=af;have c4T:Ch [] H4 (upd H' T (.tup [.int (i:Int),.ref p])):=c.trans (Ch.new hT _);generalize upd H' T (.tup [.int (i:Int),.ref p])=H5 at cT hk5 gT c4T ⊢;clear hT c;walk_at "rd";rename_i ce hce;refine ⟨(show _=List.map (fun kv=>(kV kv.1,kv.2)) (cntK6 ins ks.length i) from by rw [BF,<- lk]; rfl),(by show (3:Nat)<=15; decide),?_⟩
  have em:mergeK [] (cntK6 ins ks.length i)=cntK6 ins ks.length i:=rfl;rw [em];have c6:Ch [] H5 (upd (upd H5 ce (.dK [])) ce (.dK (cntK6 ins ks.length i))):=Ch.own hce (Ch.new hce _);obtain ⟨lp,sps,_,hp,hs,ws⟩:=tp.kl (Kl.new (cT.trans c6));refine ⟨.list,p,ce,lp,cntK6 ins ks.length i,sps,t.ls.map plK,t.bits,rfl,hp,hs,ws,af,by rw [BF]; exact okt.l4,okt.b0,by rw [BF]; exact okt.b1,zP okt.lo,fun H7 c7=>?_⟩
  walk_at "rd"
 rintro σ H5 ⟨c5,u,v,rfl⟩;have c05:=c04.trans c5;have g5:=c5.get g4 (by simp)
 clear c04 c5 g4 ht4;have hk5:H5 kl=some (.lst (kps.map V.ref)):=c05.get hk (by simp)
 walk_at "rd";refine bO (kps.map V.ref) (fun i ys σ H'=>H'=H5/\ys=List.replicate i (V.bl true)/\∃ u,σ=[u,some (.ref cd)]) (by walk_at "sz") ⟨rfl,rfl,_,rfl⟩ ?_ ?_ ?_
 ·rintro i ys σ H' hi ⟨rfl,rfl,_⟩
  exact ⟨by simp,SqL.of hk5⟩
 ·rintro i ys σ H' z hz ⟨rfl,rfl,u,rfl⟩
  obtain ⟨p,t,rfl,et,tp⟩:=bq kk i z hz;have okt:=ok.k t (BO et);have tp5:=tp.tu (Tu.same c05);walk_at "rd";exact ⟨by rw [<- C7],_,rfl⟩
 rintro ys σ H' ⟨rfl,rfl,_⟩;intro D hD;refine ⟨D,List.replicate (kps.map V.ref).length true,rfl,by rw [af,List.map_replicate],?_⟩
 rw [show (List.replicate (kps.map V.ref).length true).all id=true from by simp [List.all_replicate]]
 have c06:Ch [] H (upd H' D (.lst (List.replicate (kps.map V.ref).length (V.bl true)))):=c05.trans (Ch.new hD _);have g6:(upd H' D (.lst (List.replicate (kps.map V.ref).length (V.bl true)))) cd=some (.dK (cntK6 ins ks.length ts.length)):=aA hD g5;generalize upd H' D (.lst (List.replicate (kps.map V.ref).length (V.bl true)))=H6 at c06 g6 ⊢;clear c05 g5 hk5 hD;have ho6:H6 ol=some (.lst (ops.map V.ref)):=c06.get ho (by simp)
 walk_at "rd";refine bO (ops.map V.ref) (fun i ys σ H'=>H'=H6/\ys=List.replicate i (V.bl true)/\∃ u,σ=[u,some (.ref cd)]) (by walk_at "sz") ⟨rfl,rfl,_,rfl⟩ ?_ ?_ ?_
 ·rintro i ys σ H' hi ⟨rfl,rfl,_⟩
  exact ⟨by simp,SqL.of ho6⟩
 ·rintro i ys σ H' z hz ⟨rfl,rfl,u,rfl⟩
  obtain ⟨p,x,rfl,ex,e2⟩:=cP (oo.tu (Tu.same c06)) i z hz;have so:=Int.ofNat_lt.mpr (ok.o x (BO ex));have cv:=jT ins ks.length ts.length x.1;have h0:(0:Int)<=(x.2:Int):=Dw _;walk_at "rd";exact ⟨by rw [<- C7],_,rfl⟩
 rintro ys σ H' ⟨rfl,rfl,_⟩;intro D hD;refine ⟨D,List.replicate (ops.map V.ref).length true,rfl,by rw [af,List.map_replicate],?_⟩
 rw [show (List.replicate (ops.map V.ref).length true).all id=true from by simp [List.all_replicate]]
 walk_at "rd";exact q _ (c06.trans (Ch.new hD _))
end
end

section
section
variable {P:Program}{w:World}{K:PySem.W.Frag}{mg:Str->Option Value}{base:Heap}{f:Addr}{fd:FuncData}{k:Nat}
theorem zW:Nd "ask_tables" := ∅
theorem gl17m0:AG (defScope (inClass (top 17) 0)) ["ask_tables", "tuple"]:=⟨∅⟩
theorem av17m0:AF (defScope (inClass (top 17) 0)) ["self", "ins", "tables", "keeps", "outs"]:=⟨∅⟩
def hG:Scope:={ kind:=PySem.ScopeKind.function,names:=[ (PySem.Str.ofString ".0",PySem.NameKind.local),(PySem.Str.ofString "leaves",PySem.NameKind.local),(PySem.Str.ofString "bits",PySem.NameKind.local),(PySem.Str.ofString "tuple",PySem.NameKind.globalImplicit)],isGenerator:=false,isCoroutine:=false,more:=[]:PySem.Scope }
theorem jU:CompOk hG (defScope (inClass (top 17) 0)) (["leaves", "bits"]:List Str) (["self", "ins", "tables", "keeps", "outs"]:List Str) [] (["leaves", "bits"]:List Str):=compOk rfl ∅ ∅ ∅ ∅ rfl ∅
theorem hJ:AK (relab hG (defScope (inClass (top 17) 0))) ["leaves", "bits"]:=⟨∅⟩
theorem qK:AV (relab hG (defScope (inClass (top 17) 0))) ["leaves", "bits"]:=⟨∅⟩
theorem zX:AG (relab hG (defScope (inClass (top 17) 0))) ["tuple"]:=⟨∅⟩
def spTabs (C:Addr):Sp:=fun vs H Q _=>∃ (ex:List Addr) (x dx tl kl ol:Addr) (ins:Nat) (ts:List Tb) (ks:List Kp) (os:List Plc),vs=[.ref x,.int (ins:Int),.ref tl,.ref kl,.ref ol]/\H x=some (.ins C dx [])/\DrAt ex H tl kl ol ts ks os/\Okd ins ts ks os /\
 ∀ tt kt ot H',Ch [x] H H'->TlAt C H' x ins tt kt ot ts ks os->Q .non H'
theorem scTabs:FnScope ["self", "ins", "tables", "keeps", "outs"] ["self", "ins", "tables", "keeps", "outs"] (defScope (inClass (top 17) 0)):=⟨rfl,rfl,rfl,∅,rfl,∅,∅⟩
theorem zY (F:Fun K "__init__" "Tables.__init__" (inClass (top 17) 0) f fd) (cl:Cls K C) (nI:NoAttr K C "ins") (nT:NoAttr K C "tables") (nK:NoAttr K C "keeps") (nO:NoAttr K C "outs") (Dask_tables:DefOk P w K mg base CX0 k "ask_tables" ["ins", "tables", "keeps", "outs"] spAsk) (z_tuple:mg "tuple" = none) :
  FnOk P w K mg base CX0 (k + 1) f fd ["self", "ins", "tables", "keeps", "outs"] (spTabs C):=by
 have nd:=scTabs.nd;refine F.ok scTabs (fun vs H Q E h=>by obtain ⟨ex,x,dx,tl,kl,ol,ins,ts,ks,os,rfl,_⟩:=h; rfl) (fun cdv A outer s H vs Q E hr h=>?_)
 obtain ⟨ex,x,dx,tl,kl,ol,ins,ts,ks,os,rfl,hx,dr,ok,q⟩:=h;refine ⟨_,(Pr.h (ah (bp (ao Dask_tables hr (gl17m0.g 0 rfl) pass0 (aa (qv av17m0 1 rfl) (aa (qv av17m0 2 rfl) (aa (qv av17m0 3 rfl) (aa (qv av17m0 4 rfl) ab ae) ae) ae) ae) zW)) (ah (bL (qv av17m0 0 rfl) (qv av17m0 1 rfl) rfl) (ah (bL (qv av17m0 0 rfl) (aZ cQ (gl17m0.g 1 rfl) z_tuple bD (aa (aR rfl jU (bj (qv av17m0 2 rfl)) (fun _ _ _ _ _=>(bP K 2 rfl rfl (aw (aj (i:=0) jU.nd rfl (Or.inl (hJ.k 0 rfl)) (Or.inr (hJ.k 0 rfl))) (aw (aj (i:=1) jU.nd rfl (Or.inl (hJ.k 1 rfl)) (Or.inr (hJ.k 1 rfl))) ba)))) (fun _ _ _ _ _=>aU) (fun _ _ _ _ _=>(aN (aa (aZ (jg K rfl) (zX.g 0 rfl) z_tuple bD (aa (qw qK 0 rfl) ab ae) bE bF) (aa (qw qK 1 rfl) ab ae) bf)))) ab bc) bE bF) rfl) (ah (bL (qv av17m0 0 rfl) (aZ cQ (gl17m0.g 1 rfl) z_tuple bD (aa (qv av17m0 3 rfl) ab ae) bE bF) rfl) (ai (bL (qv av17m0 0 rfl) (aZ cQ (gl17m0.g 1 rfl) z_tuple bD (aa (qv av17m0 4 rfl) ab ae) bE bF) rfl))))))),?_⟩
 (try dsimp only [cxOf])
 walk_at "rd";rename_i H1 c1;have hx1:H1 x=some (.ins C dx []):=c1.get hx (by simp)
 have k2:Kl ex H (upd H1 x (.ins C dx (putF "ins" (.int (ins:Int)) []))):=(Kl.new c1).trans (Kl.ob Ch.put hx1);have hx2:(upd H1 x (.ins C dx (putF "ins" (.int (ins:Int)) []))) x=some (.ins C dx (putF "ins" (.int (ins:Int)) [])):=af;have c2:Ch [x] H (upd H1 x (.ins C dx (putF "ins" (.int (ins:Int)) []))):=c1.wk.trans Ch.put;have dr2:=dr.kl k2;obtain ⟨nt,tps,ht,tt⟩:=dr2.t;refine ⟨⟨_,SqL.of ht⟩,?_⟩;generalize upd H1 x (.ins C dx (putF "ins" (.int (ins:Int)) []))=H2 at hx2 c2 dr2 ht tt ⊢;clear k2 hx1 c1 dr;have lt:=BH tt;have t12:=ok.lt;refine bO (tps.map V.ref) (fun i ys σ H'=>BC6 H2 H' (ts.take i) ys/\∃ u0 u1,σ=[u0,u1]) (by walk_at "sz") ⟨⟨Ch.refl _ _,[],rfl,.nil⟩,_,_,rfl⟩ ?_ ?_ ?_
 ·rintro i ys σ H' hi ⟨⟨c,us,rfl,uu⟩,_⟩
  refine ⟨?_,SqL.of (c.get ht (by simp))⟩
  rw [BF,<- BH uu,B8];omega
 ·rintro i ys σ H' z hz ⟨⟨c,us,rfl,uu⟩,u0,u1,rfl⟩
  obtain ⟨p,t,rfl,et,tp⟩:=bq tt i z hz;obtain ⟨lp,sps,n,hp,hs,ws⟩:=tp.kl (Kl.new c);walk_at "rd";rename_i T1 h1 T2 h2;have cT:Ch [] H' (upd (upd H' T1 (.tup (sps.map V.ref))) T2 (.tup [.ref T1,.int t.bits])):=(Ch.new h1 _).trans (Ch.new h2 _);refine ⟨⟨c.trans cT,us++[T2],by simp,?_⟩,_,_,rfl⟩
  rw [B0,et];exact bu ⟨T1,sps,af,aA h2 af,ws.tu (Tu.same cT)⟩ (aF (fun _ _=>TbT.tu (Tu.same cT)) uu)
 rintro ys σ H3 ⟨⟨c3,us,rfl,uu⟩,_⟩;rw [BF,<- lt,B2] at uu;intro D hD;have hx3:H3 x=some (.ins C dx (putF "ins" (.int (ins:Int)) [])):=c3.get hx2 (by simp)
 have dr3:=dr2.ch c3;obtain ⟨nk,kps,hk,kk⟩:=dr3.k;obtain ⟨no,ops,ho,oo⟩:=dr3.o;have nkx:kl≠x:=aI hk hx3 (by intro z; cases z)
 have nox:ol≠x:=aI ho hx3 (by intro z; cases z)
 walk_at "rd";rename_i tb h1 tk h2 to h3;have cA:Ch [] H3 (upd (upd H3 D (.lst (us.map V.ref))) tb (.tup (us.map V.ref))):=(Ch.new hD _).trans (Ch.new h1 _);have ntx:tb≠x:=(ar (aA hD hx3) h1).symm;have nkx2:tk≠x:=fun z=>by rw [z,af] at h2; cases h2
 have nox2:to≠x:=fun z=>by rw [z,af] at h3; cases h3
 have cF:Ch [x] H3 (upd (upd (upd (upd (upd (upd (upd H3 D (.lst (us.map V.ref))) tb (.tup (us.map V.ref))) x (.ins C dx (putF "tables" (.ref tb) (putF "ins" (.int (ins:Int)) [])))) tk (.tup (kps.map V.ref))) x (.ins C dx (putF "keeps" (.ref tk) (putF "tables" (.ref tb) (putF "ins" (.int (ins:Int)) []))))) to (.tup (ops.map V.ref))) x (.ins C dx (putF "outs" (.ref to) (putF "keeps" (.ref tk) (putF "tables" (.ref tb) (putF "ins" (.int (ins:Int)) [])))))) :=
  ((((cA.wk.trans Ch.put).trans (Ch.new h2 _)).trans Ch.put).trans (Ch.new h3 _)).trans Ch.put
 have tu:=Tu.ch cF hx3 (fun _ z=>by cases z)
 exact q tb tk to _ ((c2.trans c3.wk).trans cF) ⟨⟨dx,af⟩,⟨us,aB ntx (aA h3 (aB ntx (aA h2 (aB ntx af)))),aF (fun _ _=>TbT.tu tu) uu⟩,⟨kps,aB nkx2 (aA h3 (aB nkx2 af)),aF (fun _ _=>KpAt.tu tu) kk⟩,⟨ops,aB nox2 af,oo.tu tu⟩⟩
theorem av42m0:AF (defScope (inClass (top 42) 0)) ["self", "tables"]:=⟨∅⟩
def jV:Scope:={ kind:=PySem.ScopeKind.function,names:=[ (PySem.Str.ofString ".0",PySem.NameKind.local),(PySem.Str.ofString "first",PySem.NameKind.local),(PySem.Str.ofString "place",PySem.NameKind.local)],isGenerator:=false,isCoroutine:=false,more:=[]:PySem.Scope }
theorem jW:CompOk jV (defScope (inClass (top 42) 0)) (["first", "place"]:List Str) (["self", "tables"]:List Str) [] (["first", "place"]:List Str):=compOk rfl ∅ ∅ ∅ ∅ rfl ∅
theorem hU:AK (relab jV (defScope (inClass (top 42) 0))) ["first", "place"]:=⟨∅⟩
theorem zZ:AV (relab jV (defScope (inClass (top 42) 0))) ["first", "place"]:=⟨∅⟩
def spPl (CT C:Addr):Sp:=fun vs H Q _=>∃ (y dx x tt kt ot:Addr) (ins:Nat) (ts:List Tb) (ks:List Kp) (os:List Plc),vs=[.ref y,.ref x]/\H y=some (.ins C dx [])/\TlAt CT H x ins tt kt ot ts ks os/\ks.length<=12 /\
 ∀ kl H',Ch [y] H H'->H kl=none->PlAt C H' y ins tt kt ot kl ts ks os (ks.map Kp.f)->Q .non H'
theorem scPl:FnScope ["self", "tables"] ["self", "tables"] (defScope (inClass (top 42) 0)):=⟨rfl,rfl,rfl,∅,rfl,∅,∅⟩
theorem z5 (F:Fun K "__init__" "TablePlayer.__init__" (inClass (top 42) 0) f fd) (clT:Cls K CT) (tI:NoAttr K CT "ins") (tT:NoAttr K CT "tables") (tK:NoAttr K CT "keeps") (tO:NoAttr K CT "outs") (cl:Cls K C) (nI:NoAttr K C "ins") (nT:NoAttr K C "tables") (nK:NoAttr K C "keeps") (nO:NoAttr K C "outs") (nH:NoAttr K C "kept"):FnOk P w K mg base CX0 (k + 1) f fd ["self", "tables"] (spPl CT C):=by
 have nd:=scPl.nd;refine F.ok scPl (fun vs H Q E h=>by obtain ⟨y,dx,x,tt,kt,ot,ins,ts,ks,os,rfl,_⟩:=h; rfl) (fun cdv A outer s H vs Q E hr h=>?_)
 obtain ⟨y,dx,x,tt,kt,ot,ins,ts,ks,os,rfl,hy,⟨⟨dn,hx⟩,tp⟩,k12,q⟩:=h;refine ⟨_,(Pr.h (ah (bL (qv av42m0 0 rfl) (aH (qv av42m0 1 rfl) rfl) rfl) (ah (bL (qv av42m0 0 rfl) (aH (qv av42m0 1 rfl) rfl) rfl) (ah (bL (qv av42m0 0 rfl) (aH (qv av42m0 1 rfl) rfl) rfl) (ah (bL (qv av42m0 0 rfl) (aH (qv av42m0 1 rfl) rfl) rfl) (ai (bL (qv av42m0 0 rfl) (aR rfl jW (cU (aH (qv av42m0 1 rfl) rfl)) (fun _ _ _ _ _=>(bP K 2 rfl rfl (aw (aj (i:=0) jW.nd rfl (Or.inl (hU.k 0 rfl)) (Or.inr (hU.k 0 rfl))) (aw (aj (i:=1) jW.nd rfl (Or.inl (hU.k 1 rfl)) (Or.inr (hU.k 1 rfl))) ba)))) (fun _ _ _ _ _=>aU) (fun _ _ _ _ _=>(qw zZ 0 rfl))) rfl))))))),?_⟩
 (try dsimp only [cxOf])
 have f1:=@ft_i ins tt kt ot;have f2:=@ft_t ins tt kt ot;have f3:=@ft_k ins tt kt ot;have f4:=@ft_o ins tt kt ot;have ny:x≠y:=aI hx hy (by intro z; cases z)
 obtain ⟨kps,hk,kk⟩:=tp.k;have lk:=BH kk;walk_at "rd";have c4:Ch [y] H (upd (upd (upd (upd H y (.ins C dx (putF "ins" (.int (ins:Int)) []))) y (.ins C dx (putF "tables" (.ref tt) (putF "ins" (.int (ins:Int)) [])))) y (.ins C dx (putF "keeps" (.ref kt) (putF "tables" (.ref tt) (putF "ins" (.int (ins:Int)) []))))) y (.ins C dx (putF "outs" (.ref ot) (putF "keeps" (.ref kt) (putF "tables" (.ref tt) (putF "ins" (.int (ins:Int)) [])))))):=((Ch.put.trans Ch.put).trans Ch.put).trans Ch.put;have g4:(upd (upd (upd (upd H y (.ins C dx (putF "ins" (.int (ins:Int)) []))) y (.ins C dx (putF "tables" (.ref tt) (putF "ins" (.int (ins:Int)) [])))) y (.ins C dx (putF "keeps" (.ref kt) (putF "tables" (.ref tt) (putF "ins" (.int (ins:Int)) []))))) y (.ins C dx (putF "outs" (.ref ot) (putF "keeps" (.ref kt) (putF "tables" (.ref tt) (putF "ins" (.int (ins:Int)) [])))))) y=some (.ins C dx (putF "outs" (.ref ot) (putF "keeps" (.ref kt) (putF "tables" (.ref tt) (putF "ins" (.int (ins:Int)) []))))):=af;generalize upd (upd (upd (upd H y (.ins C dx (putF "ins" (.int (ins:Int)) []))) y (.ins C dx (putF "tables" (.ref tt) (putF "ins" (.int (ins:Int)) [])))) y (.ins C dx (putF "keeps" (.ref kt) (putF "tables" (.ref tt) (putF "ins" (.int (ins:Int)) []))))) y (.ins C dx (putF "outs" (.ref ot) (putF "keeps" (.ref kt) (putF "tables" (.ref tt) (putF "ins" (.int (ins:Int)) [])))))=H4 at c4 g4 ⊢;have tu4:=Tu.ch c4 hy (fun _ z=>by cases z)
 refine dm (kps.map V.ref) (fun i ys σ H'=>H'=H4/\ys=((ks.take i).map Kp.f).map bV/\∃ u v,σ=[u,v]) (by walk_at "sz") ⟨rfl,rfl,_,_,rfl⟩ ?_ ?_ ?_
 ·rintro i ys σ H' hi ⟨rfl,rfl,_⟩
  exact ⟨by simp; omega,SqT.of (tu4 _ _ hk)⟩
 ·rintro i ys σ H' z hz ⟨rfl,rfl,u,v,rfl⟩
  obtain ⟨p,t,rfl,et,t1⟩:=bq kk i z hz;obtain ⟨pp,hp,_⟩:=t1.tu tu4;walk_at "rd";refine ⟨?_,_,_,rfl⟩;rw [B0,et]; simp
 rintro ys σ H' ⟨rfl,rfl,_⟩;intro D hD;rw [BF,<- lk,B2];have nD:D≠y:=(ar g4 hD).symm;have hD0:H D=none:=by
  cases e:H D with
  | none=>rfl
  | some o=>rw [c4.get e (by simpa using nD)] at hD; cases hD
 have yD:(upd H' D (.lst ((ks.map Kp.f).map bV))) y=some (.ins C dx (putF "outs" (.ref ot) (putF "keeps" (.ref kt) (putF "tables" (.ref tt) (putF "ins" (.int (ins:Int)) []))))):=aA hD g4;walk_at "rd";have cF:Ch [y] H (upd (upd H' D (.lst ((ks.map Kp.f).map bV))) y (.ins C dx (fldsY ins tt kt ot D))):=(c4.trans (Ch.new hD _)).trans Ch.put;exact q D _ cF hD0 ⟨⟨dx,af⟩,tp.tu (Tu.ch cF hy (fun _ z=>by cases z)),aB nD af,by simp⟩
theorem gl42m2:AG (defScope (inClass (top 42) 2)) ["list"]:=⟨∅⟩
theorem av42m2:AF (defScope (inClass (top 42) 2)) ["self"]:=⟨∅⟩
def spHeld (C:Addr):Sp:=fun vs H Q _=>∃ (y:Addr) (ins:Nat) (tt kt ot kl:Addr) (ts:List Tb) (ks:List Kp) (os:List Plc) (kept:List Bool),vs=[.ref y]/\PlAt C H y ins tt kt ot kl ts ks os kept/\∀ r H',Ch [] H H'->H r=none->H' r=some (.lst (kept.map bV))->Q (.ref r) H'
theorem scHeld:FnScope ["self"] ["self"] (defScope (inClass (top 42) 2)):=⟨rfl,rfl,rfl,∅,rfl,∅,∅⟩
theorem z6 (F:Fun K "held" "TablePlayer.held" (inClass (top 42) 2) f fd) (cl:Cls K C) (nT:NoAttr K C "kept") (z_list:mg "list" = none):FnOk P w K mg base CX0 (k + 1) f fd ["self"] (spHeld C):=by
 have nd:=scHeld.nd;refine F.ok scHeld (fun vs H Q E h=>by obtain ⟨y,ins,tt,kt,ot,kl,ts,ks,os,kept,rfl,_⟩:=h; rfl) (fun cdv A outer s H vs Q E hr h=>?_)
 obtain ⟨y,ins,tt,kt,ot,kl,ts,ks,os,kept,rfl,⟨⟨dx,hy⟩,tp,hl,hn⟩,q⟩:=h;refine ⟨_,(Pr.h (ai (au (aZ dC (gl42m2.g 0 rfl) z_list cm (aa (aH (qv av42m2 0 rfl) rfl) ab bH) cu cw)))),?_⟩
 (try dsimp only [cxOf])
 have f5:=@fy_h ins tt kt ot kl;walk_at "rd";exact q _ _ (Ch.new (by assumption) _) (by assumption) af
end
end

section
local macro_rules | `(tactic| walk_at "user")=>`(tactic| (apply fC; (focus walk_at "get"); (focus with_reducible assumption)))
def hdv (row kept tab:List Bool) (p:Plc):Bool:=match p.1 with
 | .i=>row.getD p.2 false
 | .k=>kept.getD p.2 false
 | .t=>tab.getD p.2 false
def upT (ts:List Tb) (row kept:List Bool):Nat->List Bool
 | 0=>[]
 | i + 1=>match ts[i]? with
  | some t=>upT ts row kept i++[tbit t.bits (t.ls.map (hdv row kept (upT ts row kept i)))]
  | none=>upT ts row kept i
theorem hV{row kept:List Bool} (h:ts[i]?=some t):upT ts row kept (i + 1)=upT ts row kept i++[tbit t.bits (t.ls.map (hdv row kept (upT ts row kept i)))]:=by simp only [upT,h]
theorem fO {ts:List Tb}{row kept:List Bool}:∀ {i:Nat},i<=ts.length->(upT ts row kept i).length=i
 | 0,_=>rfl
 | i + 1,h=>by
  have e:ts[i]?=some ts[i]:=BJ (by omega)
  rw [hV e,BU,fO (i:=i) (by omega),Cn]
def hdK (a b c:Addr):List (Key × V):=[(.inr "in",.ref a),(.inr "keep",.ref b),(.inr "table",.ref c)]
def pck (a b c:Addr):Wd->Addr
 | .i=>a
 | .k=>b
 | .t=>c
theorem jX (a b c:Addr) (x:Wd):valV (hdK a b c) (.inr x.s)=some (.ref (pck a b c x)):=by cases x <;> rfl
structure Hd6 (H:Hp) (d a b c:Addr) (row kept tab:List Bool):Prop where
 d:H d=some (.dK (hdK a b c))
 a:H a=some (.lst (row.map bV))
 b:H b=some (.lst (kept.map bV))
 c:H c=some (.lst (tab.map bV))
theorem Hd6.ch {H:Hp}{c:Addr} (s:Hd6 H d a b c row kept tab) (e:Ch [] H H'):Hd6 H' d a b c row kept tab:=⟨e.get s.d (by simp),e.get s.a (by simp),e.get s.b (by simp),e.get s.c (by simp)⟩
theorem jY {bs:List Bool} (h:n < bs.length):atI (bs.map bV) (n:Int)=some (bV (bs.getD n false)):=bW (by rw [BN,BJ h]; simp [List.getD,BJ h])
theorem Hd6.get{d c:Addr} (s:Hd6 H d a b c row kept tab) (p:Plc) (h:p.2 < lim6 row.length kept.length tab.length p.1):∃ xs,H (pck a b c p.1)=some (.lst xs)/\atI xs (p.2:Int)=some (.int (bi (hdv row kept tab p))):=by
 obtain ⟨x,n⟩:=p;cases x with
 | i=>exact ⟨_,s.a,jY h⟩
 | k=>exact ⟨_,s.b,jY h⟩
 | t=>exact ⟨_,s.c,jY h⟩
theorem Hd6.ob {H:Hp}{c y C dx:Addr}{fs:List (Str × V)} (s:Hd6 H d a b c row kept tab) (e:Ch [y] H H') (hy:H y=some (.ins C dx fs)):Hd6 H' d a b c row kept tab :=
 ⟨e.get s.d (by simpa using aI s.d hy (by intro z; cases z)),e.get s.a (by simpa using aI s.a hy (by intro z; cases z)),e.get s.b (by simpa using aI s.b hy (by intro z; cases z)),e.get s.c (by simpa using aI s.c hy (by intro z; cases z))⟩
theorem Hd6.put{c:Addr}{v:Bool} (s:Hd6 H d a b c row kept tab) (n1:a≠c) (n2:b≠c):Hd6 (upd H c (.lst (tab.map bV++[bV v]))) d a b c row kept (tab++[v]) :=
 ⟨aB (aI s.d s.c (by intro z; cases z)) s.d,aB n1 s.a,aB n2 s.b,by rw [af]; simp⟩
theorem qL {a b c i:Nat} (h:i<=j) {x:Plc} (e:x.2 < lim6 a b i x.1):x.2 < lim6 a b j x.1:=by
 obtain ⟨x,n⟩:=x;cases x with
 | i=>exact e
 | k=>exact e
 | t=>exact Cd e h
section
variable {P:Program}{w:World}{K:PySem.W.Frag}{mg:Str->Option Value}{base:Heap}{f:Addr}{fd:FuncData}{k:Nat}
def spTbt (C:Addr):Sp:=fun vs H Q _=>∃ (y r:Addr) (ins:Nat) (tt kt ot kl:Addr) (ts:List Tb) (ks:List Kp) (os:List Plc) (kept row:List Bool),vs=[.ref y,.ref r]/\PlAt C H y ins tt kt ot kl ts ks os kept/\Okd ins ts ks os/\H r=some (.lst (row.map bV))/\row.length<=1000/\row.length=ins /\
 ∀ res kl' H',Ch [y] H H'->H res=none->H kl'=none->res≠kl'->H' res=some (.lst ((os.map (hdv row kept (upT ts row kept ts.length))).map bV))->PlAt C H' y ins tt kt ot kl' ts ks os (ks.map fun x=>hdv row kept (upT ts row kept ts.length) x.pl)->Q (.ref res) H'
theorem gl42m1:AG (defScope (inClass (top 42) 1)) ["ask_bits", "list", "table_bit"]:=⟨∅⟩
theorem av42m1:AF (defScope (inClass (top 42) 1)) ["self", "row", "had", "leaves", "bits"]:=⟨∅⟩
def jZ:Scope:={ kind:=PySem.ScopeKind.function,names:=[ (PySem.Str.ofString ".0",PySem.NameKind.local),(PySem.Str.ofString "word",PySem.NameKind.local),(PySem.Str.ofString "number",PySem.NameKind.local),(PySem.Str.ofString "had",PySem.NameKind.free)],isGenerator:=false,isCoroutine:=false,more:=[]:PySem.Scope }
theorem j3:CompOk jZ (defScope (inClass (top 42) 1)) (["word", "number"]:List Str) (["self", "row", "had", "leaves", "bits"]:List Str) [2] (["word", "number", "had"]:List Str):=compOk rfl ∅ ∅ ∅ ∅ rfl ∅
theorem hW:AK (relab jZ (defScope (inClass (top 42) 1))) ["word", "number"]:=⟨∅⟩
theorem j4:AV (relab jZ (defScope (inClass (top 42) 1))) ["word", "number", "had"]:=⟨∅⟩
def j5:Scope:={ kind:=PySem.ScopeKind.function,names:=[ (PySem.Str.ofString ".0",PySem.NameKind.local),(PySem.Str.ofString "first",PySem.NameKind.local),(PySem.Str.ofString "place",PySem.NameKind.local),(PySem.Str.ofString "had",PySem.NameKind.free)],isGenerator:=false,isCoroutine:=false,more:=[]:PySem.Scope }
theorem j6:CompOk j5 (defScope (inClass (top 42) 1)) (["first", "place"]:List Str) (["self", "row", "had", "leaves", "bits"]:List Str) [2] (["first", "place", "had"]:List Str):=compOk rfl ∅ ∅ ∅ ∅ rfl ∅
theorem hX:AK (relab j5 (defScope (inClass (top 42) 1))) ["first", "place"]:=⟨∅⟩
theorem j7:AV (relab j5 (defScope (inClass (top 42) 1))) ["first", "place", "had"]:=⟨∅⟩
def j8:Scope:={ kind:=PySem.ScopeKind.function,names:=[ (PySem.Str.ofString ".0",PySem.NameKind.local),(PySem.Str.ofString "word",PySem.NameKind.local),(PySem.Str.ofString "number",PySem.NameKind.local),(PySem.Str.ofString "had",PySem.NameKind.free)],isGenerator:=false,isCoroutine:=false,more:=[]:PySem.Scope }
theorem j9:CompOk j8 (defScope (inClass (top 42) 1)) (["word", "number"]:List Str) (["self", "row", "had", "leaves", "bits"]:List Str) [2] (["word", "number", "had"]:List Str):=compOk rfl ∅ ∅ ∅ ∅ rfl ∅
theorem hZ:AK (relab j8 (defScope (inClass (top 42) 1))) ["word", "number"]:=⟨∅⟩
theorem ke:AV (relab j8 (defScope (inClass (top 42) 1))) ["word", "number", "had"]:=⟨∅⟩
theorem scBeat:FnScope ["self", "row", "had", "leaves", "bits"] ["self", "row"] (defScope (inClass (top 42) 1)):=⟨rfl,rfl,rfl,∅,rfl,∅,∅⟩
theorem z7 (F:Fun K "beat" "TablePlayer.beat" (inClass (top 42) 1) f fd) (cl:Cls K C) (nI:NoAttr K C "ins") (nT:NoAttr K C "tables") (nK:NoAttr K C "keeps") (nO:NoAttr K C "outs") (nH:NoAttr K C "kept")
  (Dask_bits:DefOk P w K mg base CX0 k "ask_bits" ["row", "length"] spABits) (Dtable_bit:DefOk P w K mg base CX0 k "table_bit" ["bits", "fed"] spTbit) (z_list:mg "list" = none):FnOk P w K mg base CX0 (k + 1) f fd ["self", "row"] (spTbt C):=by
 have nd:=scBeat.nd;refine F.ok scBeat (fun vs H Q E h=>by obtain ⟨y,r,ins,tt,kt,ot,kl,ts,ks,os,kept,row,rfl,_⟩:=h; rfl) (fun cdv A outer s H vs Q E hr h=>?_)
 obtain ⟨y,r,ins,tt,kt,ot,kl,ts,ks,os,kept,row,rfl,⟨⟨dx,hy⟩,tp,hl,hn⟩,ok,hrow,hlen,el,q⟩:=h;have hu:=di hr;refine ⟨_,(Pr.h (ah (bp (ao Dask_bits hr (gl42m1.g 0 rfl) pass0 (aa (qv av42m1 1 rfl) (aa (aH (qv av42m1 0 rfl) rfl) ab bH) ae) qA)) (ah (ay (i:=2) nd rfl (av42m1.l 2 rfl) (eV (bU aM (aZ dC (gl42m1.g 1 rfl) z_list cm (aa (qv av42m1 1 rfl) ab ae) cu cw) (bU aM (aH (qv av42m1 0 rfl) rfl) (bU aM (bZ ab) eU))) rfl rfl (by intro z; cases z) (by decide))) (ah (bK Ci rfl (cU (aH (qv av42m1 0 rfl) rfl)) (cN rfl (aw (aj (i:=3) nd rfl (av42m1.l 3 rfl)) (aw (aj (i:=4) nd rfl (av42m1.l 4 rfl)) ba))) (ai (bp (bM Cr CG CH cy (ck hu (qv av42m1 2 rfl) aM (fun _ _=>rfl)) (aa (ao Dtable_bit hr (gl42m1.g 2 rfl) pass0 (aa (qv av42m1 4 rfl) (aa (aR rfl j3 (cU (qv av42m1 3 rfl)) (fun _ _ _ _ _=>(bP K 2 rfl rfl (aw (aj (i:=0) j3.nd rfl (Or.inl (hW.k 0 rfl)) (Or.inr (hW.k 0 rfl))) (aw (aj (i:=1) j3.nd rfl (Or.inl (hW.k 1 rfl)) (Or.inr (hW.k 1 rfl))) ba)))) (fun _ _ _ _ _=>aU) (fun _ _ _ _ _=>(ak (gv K rfl) (ck hu (qw j4 2 rfl) (qw j4 0 rfl) (fun _ _=>rfl)) (qw j4 1 rfl) (fun _ _=>rfl)))) ab bc) ae) qf) ab bf))))) (ah (bL (qv av42m1 0 rfl) (aR rfl j6 (cU (aH (qv av42m1 0 rfl) rfl)) (fun _ _ _ _ _=>(bP K 2 rfl rfl (aw (aj (i:=0) j6.nd rfl (Or.inl (hX.k 0 rfl)) (Or.inr (hX.k 0 rfl))) (aw (aj (i:=1) j6.nd rfl (Or.inl (hX.k 1 rfl)) (Or.inr (hX.k 1 rfl))) ba)))) (fun _ _ _ _ _=>aU) (fun _ _ _ _ _=>(ak (gv K rfl) (ck hu (qw j7 2 rfl) (ak (cY K rfl) (qw j7 1 rfl) ag (fun _ _=>rfl)) (fun _ _=>rfl)) (ak (cY K rfl) (qw j7 1 rfl) ag (fun _ _=>rfl)) (fun _ _=>rfl)))) rfl) (ai (au (aR rfl j9 (cU (aH (qv av42m1 0 rfl) rfl)) (fun _ _ _ _ _=>(bP K 2 rfl rfl (aw (aj (i:=0) j9.nd rfl (Or.inl (hZ.k 0 rfl)) (Or.inr (hZ.k 0 rfl))) (aw (aj (i:=1) j9.nd rfl (Or.inl (hZ.k 1 rfl)) (Or.inr (hZ.k 1 rfl))) ba)))) (fun _ _ _ _ _=>aU) (fun _ _ _ _ _=>(ak (gv K rfl) (ck hu (qw ke 2 rfl) (qw ke 0 rfl) (fun _ _=>rfl)) (qw ke 1 rfl) (fun _ _=>rfl))))))))))),?_⟩
 (try dsimp only [cxOf])
 have f1:=@fy_i ins tt kt ot kl;have f2:=@fy_t ins tt kt ot kl;have f3:=@fy_k ins tt kt ot kl;have f4:=@fy_o ins tt kt ot kl;have f5:=@fy_h ins tt kt ot kl;walk_at "rd";rename_i H1 c1 d hd fl hfl tl htl;refine ⟨(show _=List.map (fun kv=>(kV kv.1,kv.2)) (hdK fl kl tl) from rfl),(by show (3:Nat)<=15; decide),?_⟩
 have d0:H d=none:=chFree c1 hd;have c2:Ch [] H (upd H1 d (.dK [])):=c1.trans (Ch.new hd _);have hd2:(upd H1 d (.dK [])) d=some (.dK []):=af;generalize upd H1 d (.dK [])=H2 at c2 hd2 hfl htl ⊢;rw [show mergeK [] (hdK fl kl tl)=hdK fl kl tl from rfl];have c3:Ch [] H2 (upd (upd H2 fl (.lst (row.map bV))) tl (.lst [])):=(Ch.new hfl _).trans (Ch.new htl _);have c4:Ch [] H (upd (upd (upd H2 fl (.lst (row.map bV))) tl (.lst [])) d (.dK (hdK fl kl tl))):=Ch.own d0 (c2.trans c3);have ftl:H tl=none:=chFree (c2.trans (Ch.new hfl _)) htl;have n1:fl≠tl:=ar (show upd H2 fl (.lst (row.map bV)) fl=_ from af) htl;have n2:kl≠tl:=ar hl ftl;have h4:Hd6 (upd (upd (upd H2 fl (.lst (row.map bV))) tl (.lst [])) d (.dK (hdK fl kl tl))) d fl kl tl row kept (upT ts row kept 0) :=
  ⟨af,aB (ar hd2 hfl).symm (aA htl af),c4.get hl (by simp),aB (ar (aA hfl hd2) htl).symm af⟩
 generalize upd (upd (upd H2 fl (.lst (row.map bV))) tl (.lst [])) d (.dK (hdK fl kl tl))=H4 at c4 h4 ⊢;clear c3 hd2 c2 c1 hd hfl htl hrow hlen;obtain ⟨tps,ht,tt1⟩:=tp.t;obtain ⟨kps,hk,kk⟩:=tp.k;obtain ⟨ops,ho,oo⟩:=tp.o;have lt:=BH tt1;have lk:=BH kk;have lo:=BH oo;rw [BF] at lo;have t12:=ok.lt;have k12:=ok.lk;have o12:=ok.lo;have hy4:=c4.get hy (by simp)
 have ht4:=c4.get ht (by simp)
 walk_at "rd";refine m6 (xs:=tps.map V.ref) (fun i σ H'=>Ch [] H H'/\Hd6 H' d fl kl tl row kept (upT ts row kept i)/\∃ u v,σ=[some (.ref y),some (.ref r),some (.ref d),u,v]) ⟨c4,h4,_,_,rfl⟩ ?_ ?_ ?_
 ·rintro i σ H' hi ⟨c,_⟩
  exact SqT.of (c.get ht (by simp))
 ·clear c4 h4 hy4 ht4
  rintro i z σ H' hz ⟨c,hh,u,v,rfl⟩;obtain ⟨p,t,rfl,et,t1⟩:=bq tt1 i z hz;obtain ⟨lp,sps,hp,hs,ws⟩:=t1.tu (Tu.same c);have hi:i < ts.length:=(BX.mp et).1;have okt:=ok.t i t et;have l4:=okt.l4;have ls:=BH ws;rw [BF] at ls;have ul:=fO (ts:=ts) (row:=row) (kept:=kept) (i:=i) (by omega)
  have us:=hV (row:=row) (kept:=kept) et;rw [us];have hdd:=hh.d;have hdc:=hh.c;have hvt:valV (hdK fl kl tl) (.inr "table")=some (.ref tl):=rfl;generalize upT ts row kept i=tab at *;walk_at "rd";refine dm (sps.map V.ref) (fun j ys σ H''=>H''=H'/\ys=((t.ls.take j).map (hdv row kept tab)).map bV/\∃ u v,σ=[u,v,some (.ref d)]) (by walk_at "sz") ⟨rfl,rfl,_,_,rfl⟩ ?_ ?_ ?_
  ·rintro j ys σ H'' hj ⟨rfl,rfl,_⟩
   exact ⟨by rw [BF,BF]; exact Ds _ _,SqT.of hs⟩
  ·rintro j ys σ H'' z hz ⟨rfl,rfl,u,v,rfl⟩
   obtain ⟨pl,x,rfl,ex,hpl⟩:=cP ws j z hz;have lx:=okt.lo x (BO ex);obtain ⟨zs,z1,z2⟩:=hh.get x (by rw [el,hn,ul]; exact lx)
   have hv:=jX fl kl tl x.1;walk_at "rd";refine ⟨?_,_,_,rfl⟩;rw [B0,ex]; simp [bV]
  ·rintro ys σ H'' ⟨rfl,rfl,_⟩
   intro D hD;rw [BF,<- ls,B2];have h7:=hh.ch (Ch.new (o:=.lst ((t.ls.map (hdv row kept tab)).map bV)) hD);refine ⟨t.bits,D,t.ls.map (hdv row kept tab),rfl,af,by rw [BF]; exact l4,fun H8 c8=>?_⟩
   have c08:=(c.trans (Ch.new (o:=.lst ((t.ls.map (hdv row kept tab)).map bV)) hD)).trans c8;have h8:=h7.ch c8;have h8c:=h8.c;have tl12:(tab.map bV).length<=12:=by rw [BF]; omega
   clear h7 c8 hD hh hdd hdc;walk_at "rd";exact ⟨h8.put n1 n2,_,_,rfl⟩
 ·rintro σ H5 ⟨c5,h5,u,v,rfl⟩
  rw [BF,<- lt] at h5;have ul:=fO (ts:=ts) (row:=row) (kept:=kept) (i:=ts.length) (BI _);generalize upT ts row kept ts.length=tab at *;clear c4 h4 hy4 ht4;have hy5:=c5.get hy (by simp)
  have hk5:=c5.get hk (by simp)
  walk_at "rd";refine dm (kps.map V.ref) (fun j ys σ H''=>H''=H5/\ys=((ks.take j).map (fun x=>hdv row kept tab x.pl)).map bV/\∃ u v,σ=[u,v,some (.ref d)]) (by walk_at "sz") ⟨rfl,rfl,_,_,rfl⟩ ?_ ?_ ?_
  ·rintro j ys σ H'' hj ⟨rfl,rfl,_⟩
   exact ⟨by rw [BF,BF]; exact Ds _ _,SqT.of hk5⟩
  ·rintro j ys σ H'' z hz ⟨rfl,rfl,u,v,rfl⟩
   obtain ⟨p,x,rfl,ex,x1⟩:=bq kk j z hz;obtain ⟨pp,hp,hpp⟩:=x1.tu (Tu.same c5);have lx:=ok.k x (BO ex);obtain ⟨zs,z1,z2⟩:=h5.get x.pl (by rw [el,hn,ul]; exact lx)
   have hv:=jX fl kl tl x.pl.1;have hdd:=h5.d;walk_at "rd";refine ⟨?_,_,_,rfl⟩;rw [B0,ex]; simp [bV]
  rintro ys σ H6 ⟨rfl,rfl,_⟩;intro D hD;rw [BF,<- lk,B2];have nD:D≠y:=(ar hy5 hD).symm;have yD:(upd H6 D (.lst ((ks.map (fun x=>hdv row kept tab x.pl)).map bV))) y=some (.ins C dx (fldsY ins tt kt ot kl)):=aA hD hy5
  have hD0:H D=none:=chFree c5 hD;walk_at "rd";rw [zR];have c7:Ch [y] H6 (upd (upd H6 D (.lst ((ks.map (fun x=>hdv row kept tab x.pl)).map bV))) y (.ins C dx (fldsY ins tt kt ot D))):=(Ch.new hD _).wk.trans Ch.put
  have y7:(upd (upd H6 D (.lst ((ks.map (fun x=>hdv row kept tab x.pl)).map bV))) y (.ins C dx (fldsY ins tt kt ot D))) y=some (.ins C dx (fldsY ins tt kt ot D)):=af
  have d7:(upd (upd H6 D (.lst ((ks.map (fun x=>hdv row kept tab x.pl)).map bV))) y (.ins C dx (fldsY ins tt kt ot D))) D=some (.lst ((ks.map (fun x=>hdv row kept tab x.pl)).map bV)):=aB nD af
  have h7:=h5.ob c7 hy5;generalize upd (upd H6 D (.lst ((ks.map (fun x=>hdv row kept tab x.pl)).map bV))) y (.ins C dx (fldsY ins tt kt ot D))=H7 at c7 y7 d7 h7 ⊢
  have cF:Ch [y] H H7:=c5.wk.trans c7;have tu7:=Tu.ch cF hy (fun _ z=>by cases z)
  have ho7:=tu7 _ _ ho;have f4:=@fy_o ins tt kt ot D;clear yD c7 hD hy5 hk5 h5;walk_at "rd";refine dm (ops.map V.ref) (fun j ys σ H''=>H''=H7/\ys=((os.take j).map (hdv row kept tab)).map bV/\∃ u v,σ=[u,v,some (.ref d)]) (by walk_at "sz") ⟨rfl,rfl,_,_,rfl⟩ ?_ ?_ ?_
  ·rintro j ys σ H'' hj ⟨rfl,rfl,_⟩
   exact ⟨by rw [BF,BF]; exact Ds _ _,SqT.of ho7⟩
  ·rintro j ys σ H'' z hz ⟨rfl,rfl,u,v,rfl⟩
   obtain ⟨pl,x,rfl,ex,hpl⟩:=cP (oo.tu tu7) j z hz;have lx:=ok.o x (BO ex);obtain ⟨zs,z1,z2⟩:=h7.get x (by rw [el,hn,ul]; exact lx)
   have hv:=jX fl kl tl x.1;have hdd:=h7.d;walk_at "rd";refine ⟨?_,_,_,rfl⟩;rw [B0,ex]; simp [bV]
  ·rintro ys σ H8 ⟨rfl,rfl,_⟩
   intro R hR;rw [BF,<- lo,B2];have cR:Ch [] H8 (upd H8 R (.lst ((os.map (hdv row kept tab)).map bV))):=Ch.new hR _;exact q R D _ (cF.trans cR.wk) (p7 cF y7 hR) hD0 (ar d7 hR).symm af ⟨⟨dx,cR.get y7 (by simp)⟩,(tp.tu tu7).tu (Tu.same cR),cR.get d7 (by simp),by simp⟩
end
end

section
def tnum (ls:List Plc):List Nat:=ls.filterMap fun p=>match p.1 with
 | .t=>some p.2
 | _=>none
def nvs (ns:List Nat):List V:=ns.map fun n:Nat=>V.int (n:Int)
section
variable {P:Program}{w:World}{K:PySem.W.Frag}{mg:Str->Option Value}{base:Heap}{f:Addr}{fd:FuncData}{k:Nat}
theorem av29:AF (defScope (top 29)) ["places"]:=⟨∅⟩
def kg:Scope:={ kind:=PySem.ScopeKind.function,names:=[ (PySem.Str.ofString ".0",PySem.NameKind.local),(PySem.Str.ofString "word",PySem.NameKind.local),(PySem.Str.ofString "number",PySem.NameKind.local)],isGenerator:=false,isCoroutine:=false,more:=[]:PySem.Scope }
theorem ki:CompOk kg (defScope (top 29)) (["word", "number"]:List Str) (["places"]:List Str) [] (["word", "number"]:List Str):=compOk rfl ∅ ∅ ∅ ∅ rfl ∅
theorem ia:AK (relab kg (defScope (top 29))) ["word", "number"]:=⟨∅⟩
theorem qM:AV (relab kg (defScope (top 29))) ["word", "number"]:=⟨∅⟩
def spTn:Sp:=fun vs H Q _=>∃ (a:Addr) (ps:List Addr) (ls:List Plc),vs=[.ref a]/\H a=some (.tup (ps.map V.ref))/\WsAt H (ls.map plK) ps/\ls.length<=300/\∀ r H',Ch [] H H'->H r=none->H' r=some (.lst (nvs (tnum ls)))->Q (.ref r) H'
theorem scTn:FnScope ["places"] ["places"] (defScope (top 29)):=⟨rfl,rfl,rfl,∅,rfl,∅,∅⟩
theorem z8 (F:Fun K "table_numbers" "table_numbers" (top 29) f fd):FnOk P w K mg base CX0 (k + 1) f fd ["places"] spTn:=by
 have nd:=scTn.nd;refine F.ok scTn (fun vs H Q E h=>by obtain ⟨a,ps,ls,rfl,_⟩:=h; rfl) (fun cdv A outer s H vs Q E hr h=>?_)
 obtain ⟨a,ps,ls,rfl,ha,ws,l3,q⟩:=h;have lp:=BH ws;rw [BF] at lp;refine ⟨_,(Pr.h (ai (au (aR rfl ki (cU (qv av29 0 rfl)) (fun _ _ _ _ _=>(bP K 2 rfl rfl (aw (aj (i:=0) ki.nd rfl (Or.inl (ia.k 0 rfl)) (Or.inr (ia.k 0 rfl))) (aw (aj (i:=1) ki.nd rfl (Or.inl (ia.k 1 rfl)) (Or.inr (ia.k 1 rfl))) ba)))) (fun _ _ _ _ _=>(dG (ax br (qw qM 0 rfl) aM (nomark _)))) (fun _ _ _ _ _=>(qw qM 1 rfl)))))),?_⟩
 (try dsimp only [cxOf])
 walk_at "rd";refine dm (ps.map V.ref) (fun i ys σ H'=>H'=H/\ys=nvs (tnum (ls.take i))/\∃ u v,σ=[u,v]) (by walk_at "sz") ⟨rfl,rfl,_,_,rfl⟩ ?_ ?_ ?_
 ·rintro i ys σ H' hi ⟨rfl,rfl,_⟩
  refine ⟨?_,SqT.of ha⟩;unfold nvs tnum;rw [BF];exact B7 (Dt _ _) (Ds _ _)
 ·rintro i ys σ H' z hz ⟨rfl,rfl,u,v,rfl⟩
  obtain ⟨p,⟨x,n⟩,rfl,ex,hp⟩:=cP ws i z hz;rw [B0,ex];walk_at "rd";have e:∀ x:Plc,tnum (ls.take i++(some x).toList)=tnum (ls.take i)++tnum [x]:=fun x=>List.filterMap_append
  rw [e];cases x with
  | t =>
   walk_at "rd";refine ⟨?_,_,_,rfl⟩;unfold nvs;rw [BL];rfl
  | i =>
   walk_at "rd";exact ⟨by rw [show tnum [(Wd.i,n)]=[] from rfl,C8],_,_,rfl⟩
  | k =>
   walk_at "rd";exact ⟨by rw [show tnum [(Wd.k,n)]=[] from rfl,C8],_,_,rfl⟩
 ·rintro ys σ H' ⟨rfl,rfl,_⟩
  rw [BF,<- lp,B2];intro D hD;walk_at "rd";exact q D _ (Ch.new hD _) hD af
theorem av28:AF (defScope (top 28)) ["tables", "place"]:=⟨∅⟩
def ktab (ts:List Tb) (p:Plc):Tb:=match p.1 with
 | .t=>ts.getD p.2 ⟨[],0⟩
 | _=>⟨[p],2⟩
def spKt (C:Addr):Sp:=fun vs H Q _=>∃ (x pp tt kt ot:Addr) (ins:Nat) (ts:List Tb) (ks:List Kp) (os:List Plc) (p:Plc),vs=[.ref x,.ref pp]/\TlAt C H x ins tt kt ot ts ks os/\H pp=some (.tup [.str p.1.s,.int (p.2:Int)])/\(p.1=.t->p.2 < ts.length)/\∀ r H',Ch [] H H'->TbT H' (ktab ts p) r->Q (.ref r) H'
theorem scKt:FnScope ["tables", "place"] ["tables", "place"] (defScope (top 28)):=⟨rfl,rfl,rfl,∅,rfl,∅,∅⟩
theorem z9 (F:Fun K "kept_table" "kept_table" (top 28) f fd) (cl:Cls K C) (nT:NoAttr K C "tables"):FnOk P w K mg base CX0 (k + 1) f fd ["tables", "place"] (spKt C):=by
 have nd:=scKt.nd;refine F.ok scKt (fun vs H Q E h=>by obtain ⟨x,pp,tt,kt,ot,ins,ts,ks,os,p,rfl,_⟩:=h; rfl) (fun cdv A outer s H vs Q E hr h=>?_)
 obtain ⟨x,pp,tt,kt,ot,ins,ts,ks,os,⟨wd,n⟩,rfl,⟨⟨dx,hx⟩,tp⟩,hp,hn,q⟩:=h;obtain ⟨tps,ht,tt'⟩:=tp.t;have lt:=BH tt';refine ⟨_,(Pr.h (ah (aC (ax br (ak az (qv av28 1 rfl) ag (fun _ _=>rfl)) aM (nomark _)) (ai (au (ak az (aH (qv av28 0 rfl) rfl) (ak az (qv av28 1 rfl) ag (fun _ _=>rfl)) (fun _ _=>rfl)))) aE) (ai (au (aN (aa (aN (aa (qv av28 1 rfl) ab ae)) (aa ag ab aV) dF)))))),?_⟩
 (try dsimp only [cxOf])
 cases wd with
 | t =>
  have hn:=hn rfl;have hl:n < tps.length:=by walk_at "lt"
  have i1:atI (tps.map V.ref) (n:Int)=some (.ref tps[n]):=bW (by rw [BN,BJ hl]; rfl)
  walk_at "rd";refine q _ _ (Ch.refl _ _) ?_;have e:ktab ts (.t,n)=ts[n]:=by show ts.getD n _=_; rw [Cu,BJ hn]; rfl
  rw [e];exact bN tt' n hn hl
 | i =>
  walk_at "rd";rename_i p1 e1 p2 e2;exact q _ _ ((Ch.new e1 _).trans (Ch.new e2 _)) ⟨p1,[pp],af,aA e2 af,.cons (aA e2 (aA e1 hp)) .nil⟩
 | k =>
  walk_at "rd";rename_i p1 e1 p2 e2;exact q _ _ ((Ch.new e1 _).trans (Ch.new e2 _)) ⟨p1,[pp],af,aA e2 af,.cons (aA e2 (aA e1 hp)) .nil⟩
end
end

section
def plOf (pp:List Plc) (s:Src):Plc:=if s.1 then pp.getD s.2 (.i,0) else (.i,s.2)
section
variable {P:Program}{w:World}{K:PySem.W.Frag}{mg:Str->Option Value}{base:Heap}{f:Addr}{fd:FuncData}{k:Nat}
theorem gl33:AG (defScope (top 33)) ["tuple"]:=⟨∅⟩
theorem av33:AF (defScope (top 33)) ["sources", "paper"]:=⟨∅⟩
def kj:Scope:={ kind:=PySem.ScopeKind.function,names:=[ (PySem.Str.ofString ".0",PySem.NameKind.local),(PySem.Str.ofString "source",PySem.NameKind.local),(PySem.Str.ofString "paper",PySem.NameKind.free)],isGenerator:=false,isCoroutine:=false,more:=[]:PySem.Scope }
theorem qN:CompOk kj (defScope (top 33)) (["source"]:List Str) (["sources", "paper"]:List Str) [1] (["source", "paper"]:List Str):=compOk rfl ∅ ∅ ∅ ∅ rfl ∅
theorem qO:AK (relab kj (defScope (top 33))) ["source"]:=⟨∅⟩
theorem ib:AV (relab kj (defScope (top 33))) ["source", "paper"]:=⟨∅⟩
def spPf:Sp:=fun vs H Q _=>∃ (a b:Addr) (ps qs:List Addr) (os:List Src) (pp:List Plc),vs=[.ref a,.ref b]/\H a=some (.tup (ps.map V.ref))/\WsAt H (os.map srcK) ps/\H b=some (.lst (qs.map V.ref))/\WsAt H (pp.map plK) qs/\(∀ s∈os,s.1=true->s.2 < pp.length)/\os.length<=300/\∀ r rs H',Ch [] H H'->H' r=some (.tup (rs.map V.ref))->WsAt H' ((os.map (plOf pp)).map plK) rs->Q (.ref r) H'
theorem scPf:FnScope ["sources", "paper"] ["sources", "paper"] (defScope (top 33)):=⟨rfl,rfl,rfl,∅,rfl,∅,∅⟩
theorem Aa (F:Fun K "places_for" "places_for" (top 33) f fd) (z_tuple:mg "tuple" = none):FnOk P w K mg base CX0 (k + 1) f fd ["sources", "paper"] spPf:=by
 have nd:=scPf.nd;refine F.ok scPf (fun vs H Q E h=>by obtain ⟨a,b,ps,qs,os,pp,rfl,_⟩:=h; rfl) (fun cdv A outer s H vs Q E hr h=>?_)
 obtain ⟨a,b,ps,qs,os,pp,rfl,ha,ws,hb,wp,lt,l3,q⟩:=h;have lp:=BH ws;rw [BF] at lp;have lq:=BH wp;rw [BF] at lq;refine ⟨_,(Pr.h (ai (au (aZ cQ (gl33.g 0 rfl) z_tuple bD (aa (aR rfl qN (cU (qv av33 0 rfl)) (fun _ _ _ _ _=>(aj (i:=0) qN.nd rfl (Or.inl (qO.k 0 rfl)) (Or.inr (qO.k 0 rfl)))) (fun _ _ _ _ _=>aU) (fun _ _ _ _ _=>(nu (ax br (ak (cY K rfl) (qw ib 0 rfl) ag (fun _ _=>rfl)) aM (nomark _)) (qw ib 0 rfl) (ak (gv K rfl) (qw ib 1 rfl) (ak (cY K rfl) (qw ib 0 rfl) ag (fun _ _=>rfl)) (fun _ _=>rfl))))) ab bc) bE bF)))),?_⟩
 (try dsimp only [cxOf])
 walk_at "rd";refine dm (ps.map V.ref) (fun i ys σ H'=>H'=H/\(∃ rs,ys=rs.map V.ref/\WsAt H (((os.take i).map (plOf pp)).map plK) rs)/\∃ u,σ=[u,some (.ref b)]) (by walk_at "sz") ⟨rfl,⟨[],rfl,.nil⟩,_,rfl⟩ ?_ ?_ ?_
 ·rintro i ys σ H' hi ⟨rfl,⟨rs,rfl,wr⟩,_⟩
  refine ⟨?_,SqT.of ha⟩;have:=BH wr;rw [BF,BF,B8] at this;rw [BF];omega
 ·rintro i ys σ H' z hz ⟨rfl,⟨rs,rfl,wr⟩,u,rfl⟩
  obtain ⟨p,kk,rfl,ek,hp⟩:=bq ws i z hz;rw [BN] at ek;obtain ⟨⟨bo,n⟩,es,rfl⟩:=B5.mp ek;have hm:=lt _ (BO es);rw [B0,es];have hp':H' p=some (.tup [.str (if bo then "block" else "in"),.int (n:Int)]):=hp;have fin:∀ (s:Src) (r:Addr),H' r=some (.tup ((plK (plOf pp s)).map kV))->∃ rs1:List Addr,rs.map V.ref++[V.ref r]=rs1.map V.ref/\WsAt H' (((os.take i++(some s).toList).map (plOf pp)).map plK) rs1:=fun s r hr=>⟨rs++[r],by simp,by rw [show (some s).toList=[s] from rfl,BL,BL]; exact bu (R:=fun k p=>H' p=some (.tup (List.map kV k))) hr wr⟩
  cases bo with
  | false =>
   walk_at "rd";exact ⟨fin _ _ hp,_,rfl⟩
  | true =>
   have hn:n < pp.length:=hm rfl;have hl:n < qs.length:=by walk_at "lt"
   walk_at "rd";refine Atx.nat (v:=V.ref qs[n]) (by rw [BN,BJ hl]; rfl) ⟨rfl,fin _ _ ?_,_,rfl⟩
   have h:=bN wp n (by rw [BF]; exact hn) hl
   rw [List.getElem_map] at h;have e:plOf pp (true,n)=pp[n]:=by show pp.getD n _=_; rw [Cu,BJ hn]; rfl
   rw [e];exact h
 ·rintro ys σ H' ⟨rfl,⟨rs,rfl,wr⟩,_⟩
  rw [BF,<- lp,B2] at wr;intro D hD;walk_at "rd";rename_i T hT;exact q T rs _ ((Ch.new hD _).trans (Ch.new hT _)) af (aF (fun _ _ h=>aA hT (aA hD h)) wr)
end
end

section
instance:DecidableEq Wd:=fun a b=>by
 cases a <;> cases b <;> first | exact isTrue rfl | exact isFalse (by intro h; cases h)
def tlv (ts:List Tb) (n:Nat):List Nat:=tnum (ts.getD n ⟨[],0⟩).ls
def st0 (ts:List Tb) (ks:List Kp) (os:List Plc):List Nat:=tnum os++ks.flatMap fun k=>tnum (ktab ts k.pl).ls
inductive Wn (ts:List Tb) (ks:List Kp) (os:List Plc):Nat->Prop
 | b {n:Nat}:n∈st0 ts ks os->Wn ts ks os n
 | s {m n:Nat}:Wn ts ks os m->n∈tlv ts m->Wn ts ks os n
theorem df:n∈tnum ls↔(Wd.t,n)∈ls:=by
 unfold tnum;rw [Dv]
 constructor
 ·rintro ⟨⟨x,m⟩,h,e⟩
  cases x with
  | t=>cases e; exact h
  | i=>cases e
  | k=>cases e
 ·exact fun h=>⟨_,h,rfl⟩
theorem dg {α:Type}{l:List α}{x d:α} (e:l[n]?=some x):l.getD n d=x:=by rw [Cu,e]; rfl
theorem eI (e:ts[n]?=some t):tlv ts n=tnum t.ls:=by unfold tlv; rw [dg e]
theorem fP (e:ts[n]?=some t):ktab ts (.t,n)=t:=dg e
section
variable {ins:Nat}{ts:List Tb}{ks:List Kp}{os:List Plc}
theorem qP (ok:Okd ins ts ks os) (h:n∈tlv ts m):n < m/\m < ts.length:=by
 cases e:ts[m]? with
 | none =>
  unfold tlv at h;rw [Cu,e] at h;cases h
 | some t =>
  rw [eI e] at h;exact ⟨(ok.t m t e).lo _ (df.mp h),(BX.mp e).1⟩
theorem km (ok:Okd ins ts ks os) {k:Kp} (hk:k∈ks) (h:p∈(ktab ts k.pl).ls):p.2 < lim6 ins ks.length ts.length p.1:=by
 have o:=ok.k k hk;obtain ⟨f,⟨x,n⟩⟩:=k;cases x with
 | t =>
  have hn:n < ts.length:=o;have e:ts[n]?=some ts[n]:=BJ hn;rw [fP e] at h;have:=(ok.t n _ e).lo p h;exact qL (c:=0) (Ce hn) this
 | i=>obtain rfl:=B6.mp h; exact o
 | k=>obtain rfl:=B6.mp h; exact o
theorem bQ (ok:Okd ins ts ks os) (h:Wn ts ks os n):n < ts.length:=by
 cases h with
 | b h =>
  rcases BP.mp h with z | z
  ·exact ok.o _ (df.mp z)
  ·obtain ⟨k,hk,z⟩:=List.mem_flatMap.mp z
   exact km ok hk (df.mp z)
 | s h z=>have:=qP ok z; omega
end
open Classical in
noncomputable def wtd (ts:List Tb) (ks:List Kp) (os:List Plc):List Nat:=(List.range ts.length).filter fun n=>decide (Wn ts ks os n)
open Classical in
theorem cz {ins:Nat} (ok:Okd ins ts ks os):n∈wtd ts ks os↔Wn ts ks os n:=by
 unfold wtd;rw [Cb,Cj,Df];exact ⟨fun h=>h.2,fun h=>⟨bQ ok h,h⟩⟩
theorem ie (ts:List Tb) (ks:List Kp) (os:List Plc):(wtd ts ks os).length<=ts.length:=by
 have:=CO (fun n=>@decide (Wn ts ks os n) (Classical.propDecidable _)) (List.range ts.length)
 rwa [Cy] at this
theorem ig (ts:List Tb) (ks:List Kp) (os:List Plc):(wtd ts ks os).Pairwise (· < ·):=List.pairwise_lt_range.filter _
theorem ij (h:l.Pairwise (· < ·)):l.Nodup:=h.imp fun e z=>by omega
theorem qQ:∀ {l m:List Nat},l.Pairwise (· < ·)->m.Pairwise (· < ·)->(∀ n,n∈l↔n∈m)->l=m:=by
 intro l m h1 h2 h;refine List.Perm.eq_of_pairwise (le:=(·<=·)) (fun _ _ _ _=>Nat.le_antisymm) (h1.imp fun e=>Ce e) (h2.imp fun e=>Ce e) ?_
 exact (List.perm_ext_iff_of_nodup (ij h1) (ij h2)).mpr h
noncomputable def ppr (ts:List Tb) (ks:List Kp) (os:List Plc):List Plc:=((List.range ks.length).map fun n=>(Wd.k,n))++(wtd ts ks os).map fun n=>(Wd.t,n)
def srcOf (pp:List Plc) (p:Plc):Src:=match p.1 with
 | .i=>(false,p.2)
 | _=>(true,pp.idxOf p)
def kpD:Kp:=⟨false,(.i,0)⟩
def blk (ts:List Tb) (ks:List Kp) (pp:List Plc) (q:Plc):Bk:=match q.1 with
 | .k=>⟨(ktab ts (ks.getD q.2 kpD).pl).ls.map (srcOf pp),(ktab ts (ks.getD q.2 kpD).pl).bits,1,bi (ks.getD q.2 kpD).f⟩
 | _=>⟨(ts.getD q.2 ⟨[],0⟩).ls.map (srcOf pp),(ts.getD q.2 ⟨[],0⟩).bits,0,0⟩
noncomputable def bls (ts:List Tb) (ks:List Kp) (os:List Plc):List Bk:=(ppr ts ks os).map (blk ts ks (ppr ts ks os))
noncomputable def ots (ts:List Tb) (ks:List Kp) (os:List Plc):List Src:=os.map (srcOf (ppr ts ks os))
def Kn (pp:List Plc) (p:Plc):Prop:=p.1=.i\/p∈pp
section
variable {ins:Nat}{ts:List Tb}{ks:List Kp}{os:List Plc}
theorem dw:(Wd.k,n)∈ppr ts ks os↔n < ks.length:=by
 unfold ppr;rw [BP,BQ,BQ]
 constructor
 ·rintro (⟨m,h,e⟩ | ⟨m,h,e⟩)
  ·cases e; exact Cj.mp h
  ·cases e
 ·exact fun h=>.inl ⟨n,Cj.mpr h,rfl⟩
theorem e7:(Wd.t,n)∈ppr ts ks os↔n∈wtd ts ks os:=by
 unfold ppr;rw [BP,BQ,BQ]
 constructor
 ·rintro (⟨m,h,e⟩ | ⟨m,h,e⟩)
  ·cases e
  ·cases e; exact h
 ·exact fun h=>.inr ⟨n,h,rfl⟩
theorem fQ:(Wd.i,n) ∉ ppr ts ks os:=by
 unfold ppr;rw [BP,BQ,BQ];rintro (⟨m,h,e⟩ | ⟨m,h,e⟩) <;> cases e
theorem qR:(ppr ts ks os).Nodup:=by
 unfold ppr;rw [C3];refine ⟨?_,?_,?_⟩
 ·exact List.pairwise_map.mpr (List.nodup_range.imp fun n e=>n (Prod.mk.inj e).2)
 ·exact List.pairwise_map.mpr ((ij (ig ts ks os)).imp fun n e=>n (Prod.mk.inj e).2)
 ·rintro a ha b hb rfl
  obtain ⟨m,_,rfl⟩:=BQ.mp ha;obtain ⟨n,_,e⟩:=BQ.mp hb;cases e
theorem e8:(ppr ts ks os).length<=ks.length + ts.length:=by
 unfold ppr;rw [BU,BF,BF,Cy];have:=ie ts ks os;omega
theorem kx (ok:Okd ins ts ks os) (h:p.2 < lim6 ins ks.length ts.length p.1) (w:∀ n,p=(.t,n)->Wn ts ks os n):Kn (ppr ts ks os) p:=by
 obtain ⟨x,n⟩:=p;cases x with
 | i=>exact .inl rfl
 | k=>exact .inr (dw.mpr h)
 | t=>exact .inr (e7.mpr ((cz ok).mpr (w n rfl)))
theorem e9 (ok:Okd ins ts ks os) (h:p∈os):Kn (ppr ts ks os) p:=kx ok (ok.o p h) fun n e=>.b (BP.mpr (.inl (df.mpr (e ▸ h))))
theorem fR (ok:Okd ins ts ks os) {k:Kp} (hk:k∈ks) (h:p∈(ktab ts k.pl).ls):Kn (ppr ts ks os) p:=kx ok (km ok hk h) fun n e=>.b (BP.mpr (.inr (List.mem_flatMap.mpr ⟨k,hk,df.mpr (e ▸ h)⟩)))
theorem fc (ok:Okd ins ts ks os) {n:Nat}{t:Tb} (e:ts[n]?=some t) (w:Wn ts ks os n) (h:p∈t.ls):Kn (ppr ts ks os) p :=
 kx ok (qL (c:=0) (Ce (BX.mp e).1) ((ok.t n t e).lo p h)) fun m z=>.s w (by rw [eI e]; exact df.mpr (z ▸ h))
theorem qS (h:Kn pp p):plOf pp (srcOf pp p)=p:=by
 obtain ⟨x,n⟩:=p;cases x with
 | i=>rfl
 | k =>
  have m:=h.resolve_left (by intro z; cases z)
  show pp.getD (pp.idxOf (Wd.k,n)) _=_;rw [Cu,BJ (De m),List.getElem_idxOf]; rfl
 | t =>
  have m:=h.resolve_left (by intro z; cases z)
  show pp.getD (pp.idxOf (Wd.t,n)) _=_;rw [Cu,BJ (De m),List.getElem_idxOf]; rfl
theorem Ab (h:Kn pp p) (l:p.1=.i->p.2 < ins):(srcOf pp p).2 < lim ins pp.length (srcOf pp p).1:=by
 obtain ⟨x,n⟩:=p;cases x with
 | i=>exact l rfl
 | k=>exact De (h.resolve_left (by intro z; cases z))
 | t=>exact De (h.resolve_left (by intro z; cases z))
theorem ky (h:∀ p∈ls,Kn pp p):(ls.map (srcOf pp)).map (plOf pp)=ls:=by
 rw [CA]
 conv=>rhs; rw [<- List.map_id ls]
 exact List.map_congr_left fun p hp=>qS (h p hp)
theorem fS{q:Plc} (e:(ppr ts ks os)[j]?=some q):(bls ts ks os)[j]?=some (blk ts ks (ppr ts ks os) q):=by unfold bls; rw [BN,e]; rfl
theorem dW:(bls ts ks os).length=(ppr ts ks os).length:=by unfold bls; rw [BF]
end
end

section
local macro_rules | `(tactic| walk_at "user")=>`(tactic| first
 | (apply eY; (focus walk_at "get"); (focus with_reducible assumption))
 | (apply xR; (focus walk_at "get"); (focus with_reducible assumption))
 | (apply dputI; (focus walk_at "get"); (focus with_reducible assumption)))
structure WQ (ts:List Tb) (ks:List Kp) (os:List Plc) (wl wd:List Nat):Prop where
 nd:wd.Nodup
 w:∀ n,n∈wl\/n∈wd->Wn ts ks os n
 b:∀ n∈st0 ts ks os,n∈wl\/n∈wd
 s:∀ m∈wd,∀ n∈tlv ts m,n∈wl\/n∈wd
theorem WQ.old{wl wd:List Nat}{n:Nat} (q:WQ ts ks os (wl++[n]) wd) (h:n∈wd):WQ ts ks os wl wd :=
 ⟨q.nd,fun m z=>q.w m (z.imp (fun y=>BP.mpr (.inl y)) id),fun m z=>by
  rcases q.b m z with y | y
  ·rcases BP.mp y with y | y
   ·exact .inl y
   ·rw [B6.mp y]; exact .inr h
  ·exact .inr y,fun k hk m z=>by
  rcases q.s k hk m z with y | y
  ·rcases BP.mp y with y | y
   ·exact .inl y
   ·rw [B6.mp y]; exact .inr h
  ·exact .inr y⟩
theorem WQ.new{wl wd:List Nat} (q:WQ ts ks os (wl++[n]) wd) (h:n ∉ wd):WQ ts ks os (wl++tlv ts n) (wd++[n]):=by
 have hn:Wn ts ks os n:=q.w n (.inl (by simp))
 have mv:∀ m,m∈wl++[n]\/m∈wd->m∈wl++tlv ts n\/m∈wd++[n]:=fun m z=>by
  rcases z with y | y
  ·rcases BP.mp y with y | y
   ·exact .inl (BP.mpr (.inl y))
   ·exact .inr (BP.mpr (.inr y))
  ·exact .inr (BP.mpr (.inl y))
 refine ⟨?_,fun m z=>?_,fun m z=>mv m (q.b m z),fun k hk m z=>?_⟩
 ·rw [C3]
  exact ⟨q.nd,by simp,fun a ha b hb e=>h (by rw [<- B6.mp hb,<- e]; exact ha)⟩
 ·rcases z with y | y
  ·rcases BP.mp y with y | y
   ·exact q.w m (.inl (BP.mpr (.inl y)))
   ·exact .s hn y
  ·rcases BP.mp y with y | y
   ·exact q.w m (.inr y)
   ·rw [B6.mp y]; exact hn
 ·rcases BP.mp hk with y | y
  ·exact mv m (q.s k y m z)
  ·rw [B6.mp y] at z
   exact .inl (BP.mpr (.inr z))
theorem WQ.done {ins:Nat}{wd:List Nat} (ok:Okd ins ts ks os) (q:WQ ts ks os [] wd):∀ n,n∈wd↔n∈wtd ts ks os:=fun n=>by
 rw [cz ok];refine ⟨fun h=>q.w n (.inr h),fun h=>?_⟩
 induction h with
 | b z=>exact (q.b _ z).resolve_left (by simp)
 | s _ z ih=>exact (q.s _ ih _ z).resolve_left (by simp)
theorem Ac {ins:Nat}{ks:List Kp}{os:List Plc} (ok:Okd ins ts ks os) (n:Nat):(tlv ts n).length<=4:=by
 cases e:ts[n]? with
 | none=>unfold tlv; rw [Cu,e]; decide
 | some t=>rw [eI e]; exact B7 (Dt _ _) (ok.t n t e).l4
theorem kB (a b:List Nat):nvs a++nvs b=nvs (a++b):=by unfold nvs; rw [BL]
theorem fe (a:List Nat):(nvs a).length=a.length:=by unfold nvs; rw [BF]
theorem Ad {ins:Nat}{wd:List Nat} (ok:Okd ins ts ks os) (q:WQ ts ks os [] wd) (p:ns.Perm (wd.map fun n:Nat=>(n:Int))) (s:ns.Pairwise (·<=·)):ns.map V.int=nvs (wtd ts ks os):=by
 have pw:wd.Perm (wtd ts ks os):=(List.perm_ext_iff_of_nodup q.nd (ij (ig ts ks os))).mpr (q.done ok);have e:ns=(wtd ts ks os).map fun n:Nat=>(n:Int):=by
  refine (p.trans (pw.map _)).eq_of_pairwise (le:=(·<=·)) (fun _ _ _ _=>Int.le_antisymm) s ?_
  exact List.pairwise_map.mpr ((ig ts ks os).imp fun h=>by omega)
 rw [e,CA];rfl
theorem dX {ins:Nat}{ks:List Kp}{os:List Plc} (ok:Okd ins ts ks os) {k:Kp} (hk:k∈ks):(ktab ts k.pl).ls.length<=4:=by
 have o:=ok.k k hk;obtain ⟨f,⟨x,n⟩⟩:=k;cases x with
 | t =>
  have e:ts[n]?=some (ts[n]'o):=BJ o;rw [fP e];exact (ok.t n _ e).l4
 | i=>exact (by decide:1<=4)
 | k=>exact (by decide:1<=4)
section
variable {P:Program}{w:World}{K:PySem.W.Frag}{mg:Str->Option Value}{base:Heap}{f:Addr}{fd:FuncData}{k:Nat}
theorem kC:Nd "table_numbers" := ∅
theorem kE:Nd "kept_table" := ∅
theorem Ae:bootBuiltins "sorted" = some (.builtin "sorted"):=∅
theorem Af:("sorted" : Str) ≠ "__name__" := ∅
theorem Ag:Nd "sorted" := ∅
theorem av30:AF (defScope (top 30)) ["tables", "waiting", "first", "place", "wanted", "number"]:=⟨∅⟩
theorem gl30:AG (defScope (top 30)) ["table_numbers", "kept_table", "len", "sorted"]:=⟨∅⟩
def spWt (C:Addr):Sp:=fun vs H Q _=>∃ (x tt kt ot:Addr) (ins:Nat) (ts:List Tb) (ks:List Kp) (os:List Plc),vs=[.ref x]/\TlAt C H x ins tt kt ot ts ks os/\Okd ins ts ks os/\∀ r H',Ch [] H H'->H r=none->H' r=some (.lst (nvs (wtd ts ks os)))->Q (.ref r) H'
theorem scWt:FnScope ["tables", "waiting", "first", "place", "wanted", "number"] ["tables"] (defScope (top 30)):=⟨rfl,rfl,rfl,∅,rfl,∅,∅⟩
theorem Ah (F:Fun K "wanted_tables" "wanted_tables" (top 30) f fd) (cl:Cls K C) (nT:NoAttr K C "tables") (nK:NoAttr K C "keeps") (nO:NoAttr K C "outs") (Dtable_numbers:DefOk P w K mg base CX0 k "table_numbers" ["places"] spTn) (Dkept_table:DefOk P w K mg base CX0 k "kept_table" ["tables", "place"] (spKt C)) (z_len:mg "len" = none) (z_sorted:mg "sorted" = none):FnOk P w K mg base CX0 (k + 1) f fd ["tables"] (spWt C):=by
 have nd:=scWt.nd;refine F.ok scWt (fun vs H Q E h=>by obtain ⟨x,tt,kt,ot,ins,ts,ks,os,rfl,_⟩:=h; rfl) (fun cdv A outer s H vs Q E hr h=>?_)
 obtain ⟨x,tt,kt,ot,ins,ts,ks,os,rfl,⟨⟨dx,hx⟩,tp⟩,ok,q⟩:=h;have hu:=di hr;obtain ⟨tps,ht,tt'⟩:=tp.t;obtain ⟨kps,hk,kk⟩:=tp.k;obtain ⟨ops,ho,oo⟩:=tp.o;have lt:=BH tt';have lk:=BH kk;have t12:=ok.lt;have k12:=ok.lk;have o12:=ok.lo;refine ⟨_,(Pr.h (ah (ay (i:=1) nd rfl (av30.l 1 rfl) (ao Dtable_numbers hr (gl30.g 0 rfl) pass0 (aa (aH (qv av30 0 rfl) rfl) ab bH) kC)) (ah (bK Ci rfl (cU (aH (qv av30 0 rfl) rfl)) (cN rfl (aw (aj (i:=2) nd rfl (av30.l 2 rfl)) (aw (aj (i:=3) nd rfl (av30.l 3 rfl)) ba))) (ai (bp (bM Cr PySem.F.slot_list_extend PySem.F.type_list_extend iR (qv av30 1 rfl) (aa (ao Dtable_numbers hr (gl30.g 0 rfl) pass0 (aa (ak az (ao Dkept_table hr (gl30.g 1 rfl) pass0 (aa (qv av30 0 rfl) (aa (qv av30 3 rfl) ab ae) ae) kE) ag (fun _ _=>rfl)) ab aS) kC) ab bf))))) (ah (ay (i:=4) nd rfl (av30.l 4 rfl) xB) (ah (nv Ci (ax eP (aq aJ (gl30.g 2 rfl) z_len BY (aa (qv av30 1 rfl) ab ae) aK aL) ag (nomark _)) (ah (ay (i:=5) nd rfl (av30.l 5 rfl) (nZ (qv av30 1 rfl))) (ai (aC (xO hu (qv av30 5 rfl) (qv av30 4 rfl)) (ah (jf hu (qv av30 4 rfl) (qv av30 5 rfl) bh rfl) (ai (bp (bM Cr PySem.F.slot_list_extend PySem.F.type_list_extend iR (qv av30 1 rfl) (aa (ao Dtable_numbers hr (gl30.g 0 rfl) pass0 (aa (ak az (ak az (aH (qv av30 0 rfl) rfl) (qv av30 5 rfl) (fun _ _=>rfl)) ag (fun _ _=>rfl)) ab aS) kC) ab bf))))) aE)))) (ai (au (aq (yh rfl) (gl30.g 3 rfl) z_sorted Ae (aa (qv av30 4 rfl) ab ae) Af Ag)))))))),?_⟩
 (try dsimp only [cxOf])
 walk_at "rd";rename_i wl H1 c1 f1 g1;have qi:∀ (i:Nat) (x:Kp),ks[i]?=some x->(ks.take (i + 1)).flatMap (fun k=>tnum (ktab ts k.pl).ls)=(ks.take i).flatMap (fun k=>tnum (ktab ts k.pl).ls)++tnum (ktab ts x.pl).ls:=fun i x e=>by
  rw [B0,e,List.flatMap_append]; simp
 have ln:∀ i,((ks.take i).flatMap fun k=>tnum (ktab ts k.pl).ls).length<=4 * i:=fun i=>by
  induction i with
  | zero=>simp
  | succ i ih =>
   cases e:ks[i]? with
   | none=>rw [B0,e]; simp; simp at ih; omega
   | some x =>
    rw [qi i x e,BU];have:(tnum (ktab ts x.pl).ls).length<=4:=B7 (Dt _ _) (dX ok (BO e));omega
 have lo:(tnum os).length<=12:=B7 (Dt _ _) o12;refine m6 (xs:=kps.map V.ref) (fun i σ H'=>Ch [] H H'/\H' wl=some (.lst (nvs (tnum os++(ks.take i).flatMap fun k=>tnum (ktab ts k.pl).ls)))/\∃ u v,σ=[some (.ref x),some (.ref wl),u,v,none,none]) ⟨c1,by simpa using g1,_,_,rfl⟩ ?_ ?_ ?_
 ·rintro i σ H' hi ⟨c,_⟩
  exact SqT.of (c.get hk (by simp))
 ·rintro i z σ H' hz ⟨c,g,u,v,rfl⟩
  obtain ⟨p,t,rfl,et,t1⟩:=bq kk i z hz;obtain ⟨pp,hp,hpp⟩:=t1.tu (Tu.same c);rw [qi i t et];have hi:i < ks.length:=(BX.mp et).1;have li:=ln i;have okk:=ok.k t (BO et);have s4:=dX ok (BO et);generalize (ks.take i).flatMap (fun k=>tnum (ktab ts k.pl).ls)=fm at li g ⊢
  have tl:TlAt C H' x ins tt kt ot ts ks os:=⟨⟨dx,c.get hx (by simp)⟩,tp.tu (Tu.same c)⟩
  walk_at "rd";refine ⟨fun e=>by rw [e] at okk; exact okk,fun r H2 c2 t2=>?_⟩
  obtain ⟨lp,qs,h1,h2,ws⟩:=t2;have gw:=c2.get g (by simp)
  have fl:(tnum (ktab ts t.pl).ls).length<=4:=B7 (Dt _ _) s4;have ls3:(ktab ts t.pl).ls.length<=300:=by omega
  have fz:(nvs (tnum os++fm)).length + (nvs (tnum (ktab ts t.pl).ls)).length<=sizeLine:=by rw [fe,fe,BU,BR]; omega
  have fw:H wl=none:=f1;have c12:=c.trans c2;clear c c2 g hx ht hk ho;walk_at "rd";rename_i r3 H3 c3 f3 g3;rw [kB,C6];exact ⟨af,_,_,rfl⟩
 ·rintro σ H2 ⟨c2,g2,u,v,rfl⟩
  rw [BF,<- lk,B2] at g2;have l2:=ln ks.length;rw [B2] at l2;have q0:WQ ts ks os (tnum os++ks.flatMap fun k=>tnum (ktab ts k.pl).ls) []:=⟨List.nodup_nil,fun n h=>.b (h.resolve_right (by simp)),fun n h=>.inl h,fun m h=>absurd h (by simp)⟩
  have lw0:(tnum os++ks.flatMap fun k=>tnum (ktab ts k.pl).ls).length<=60:=by rw [BU]; omega
  generalize tnum os++ks.flatMap (fun k=>tnum (ktab ts k.pl).ls)=wl0 at g2 q0 lw0
  intro wd hwd;show tWhile _ _ _ _ _;have fd0:H wd=none:=chFree c2 hwd;have nlw:wl≠wd:=ar g2 hwd;refine n9 (fun m σ H'=>∃ (u2 u3 u5:Option V) (ws ds:List Nat),σ=[some (.ref x),some (.ref wl),u2,u3,some (.ref wd),u5]/\WQ ts ks os ws ds/\Ch [] H H'/\H' wl=some (.lst (nvs ws))/\H' wd=some (.dK (wD ds fun _=>.bl true))/\ws.length + 5 * (13 - ds.length)<=150/\m=ws.length + 5 * (13 - ds.length)) ⟨_,_,_,_,_,_,rfl,q0,c2.trans (Ch.new hwd _),aA hwd g2,af,by simp; omega,rfl⟩ ?_ ?_
  ·clear q0 g2 c2 l2 hwd lw0
   rintro m σ H1 ⟨u2,u3,u5,ws,ds,rfl,wq,c1,g1,gd,mb,rfl⟩;have dl:ds.length<=12:=by
    have:=eB (m:=List.range 12) wq.nd fun n h=>Cj.mpr (by have:=bQ ok (wq.w n (.inr h)); omega)
    simpa using this
   walk_at "rd";refine ite2 (fun hc=>?_) (fun hc=>?_)
   ·have hne:ws≠[]:=by rintro rfl; simp [nvs] at hc
    obtain ⟨w',n,rfl⟩:∃ w' n,ws=w'++[n]:=⟨ws.dropLast,ws.getLast hne,(List.dropLast_concat_getLast hne).symm⟩;have hla:(nvs (w'++[n]))[(nvs (w'++[n])).length - 1]?=some (V.int (n:Int)):=by simp [nvs]
    have edl:(nvs (w'++[n])).dropLast=nvs w':=by rw [<- kB]; exact List.dropLast_concat
    refine ⟨_,rfl,.inl ⟨rfl,_,SqL.of g1⟩,wl,_,_,rfl,rfl,g1,hla,?_⟩;rw [edl];have c2:Ch [] H (upd H1 wl (.lst (nvs w'))):=Ch.own f1 c1;have g2:(upd H1 wl (.lst (nvs w'))) wl=some (.lst (nvs w')):=af;have gd2:(upd H1 wl (.lst (nvs w'))) wd=some (.dK (wD ds fun _=>.bl true)):=aB nlw.symm gd
    rw [BU,Cn] at mb ⊢;generalize upd H1 wl (.lst (nvs w'))=H2 at c2 g2 gd2 ⊢;clear c1 g1 gd hla edl hc hne
    by_cases hn:n∈ds
    ·have hv:=fI (g:=fun _=>V.bl true) hn
     walk_at "rd";refine ⟨?_,_,_,_,w',ds,rfl,wq.old hn,c2,g2,gd2,by omega,rfl⟩
     omega
    ·have hv:=zL (g:=fun _=>V.bl true) hn
     have hnl:=bQ ok (wq.w n (.inl (by simp)))
     have et:ts[n]?=some ts[n]:=BJ hnl;have hl:n < tps.length:=by walk_at "lt"
     have i1:atI (tps.map V.ref) (n:Int)=some (.ref tps[n]):=bW (by rw [BN,BJ hl]; rfl)
     have fl:(tlv ts n).length<=4:=Ac ok n;have wN:=wq.new hn;have es:=qr (g:=fun _=>V.bl true) hn
     have lsz:(wD ds fun _=>V.bl true).length < sizeLine:=by unfold wD; rw [BF,BR]; omega
     have c3:Ch [] H (upd H2 wd (.dK (putK (wD ds fun _=>V.bl true) (.inl (n:Int)) (.bl true)))):=Ch.own fd0 c2
     have g3:(upd H2 wd (.dK (putK (wD ds fun _=>V.bl true) (.inl (n:Int)) (.bl true)))) wd=some (.dK (putK (wD ds fun _=>V.bl true) (.inl (n:Int)) (.bl true))):=af
     have gw3:(upd H2 wd (.dK (putK (wD ds fun _=>V.bl true) (.inl (n:Int)) (.bl true)))) wl=some (.lst (nvs w')):=aB nlw g2
     obtain ⟨lp,qs,h1,h2,ws⟩:=(bN tt' n hnl hl);have s4:ts[n].ls.length<=300:=by have:=(ok.t n _ et).l4; omega
     have ws3:=ws.tu (Tu.same c3);have fz:(nvs w').length + (nvs (tnum ts[n].ls)).length<=sizeLine:=by rw [<- eI et,fe,fe,BR]; omega
     clear g2;walk_at "rd";rename_i r3 H3 c4 f4 g4;rw [<- eI et,kB];refine ⟨?_,_,_,_,w'++tlv ts n,ds++[n],rfl,wN,Ch.own f1 (c3.trans c4),af,aB nlw.symm (by rw [<- es]; exact c4.get g3 (by simp)),by rw [BU,BU,Cn]; omega,rfl⟩
     rw [BU,BU,Cn];omega
   ·have hnil:ws=[]:=by
     cases ws with
     | nil=>rfl
     | cons _ _=>exact absurd hc (by simp [nvs])
    subst hnil;have he:(wD ds fun _=>V.bl true).map (·.1)=(ds.map fun n:Nat=>(n:Int)).map Sum.inl:=by unfold wD; rw [CA,CA]; rfl
    have l64:(ds.map fun n:Nat=>(n:Int)).length < 64:=by rw [BF]; omega
    walk_at "rd";rename_i p ns' pm so hp;rw [Ad ok wq pm so];exact q p _ (c1.trans (Ch.new hp _)) (chFree c1 hp) af
  ·rintro σ H Q Q' hq ⟨v,h1,p,ys,h2,h3,i,j,h4,h5,k,h6,h7⟩
   exact ⟨v,h1,p,ys,h2,h3,i,j,h4,h5,k,h6,hq _ _ h7⟩
end
end

section
def cntK2 (b c:Nat):List (Key × V):=[(.inr "keep",.int (b:Int)),(.inr "table",.int (c:Int))]
theorem Ai (b c:Nat) (x:Wd) (h:x≠.i):valV (cntK2 b c) (.inr x.s)=some (.int (lim6 0 b c x:Int)):=by cases x <;> first | rfl | exact absurd rfl h
end

section
section
variable {P:Program}{w:World}{K:PySem.W.Frag}{mg:Str->Option Value}{base:Heap}{f:Addr}{fd:FuncData}{k:Nat}
theorem kF {a b:Plc} (e:plK a=plK b):a=b:=by
 obtain ⟨x,n⟩:=a;obtain ⟨y,m⟩:=b;unfold plK at e;injection e with e1 e2
 injection e2 with e2 _
 injection e2 with e2
 injection e1 with e1
 have:n=m:=by exact Int.ofNat.inj e2
 subst this;have e1:x.s=y.s:=e1
 revert e1
 cases x <;> cases y <;> first | (intro _; rfl) | (intro e1; exact absurd e1 ∅)
theorem qT (h:pp.Nodup):(pp.map plK).Nodup:=by
 unfold List.Nodup;rw [List.pairwise_map];exact h.imp fun n e=>n (kF e)
theorem av34:AF (defScope (top 34)) ["tables", "paper", "counts"]:=⟨∅⟩
theorem gl34:AG (defScope (top 34)) ["len", "set", "all", "range"]:=⟨∅⟩
def ik:Scope:={ kind:=PySem.ScopeKind.function,names:=[ (PySem.Str.ofString ".0",PySem.NameKind.local),(PySem.Str.ofString "place",PySem.NameKind.local),(PySem.Str.ofString "is_place",PySem.NameKind.globalImplicit),(PySem.Str.ofString "counts",PySem.NameKind.free)],isGenerator:=false,isCoroutine:=false,more:=[]:PySem.Scope }
theorem qU:CompOk ik (defScope (top 34)) (["place"]:List Str) (["tables", "paper", "counts"]:List Str) [2] (["place", "counts"]:List Str):=compOk rfl ∅ ∅ ∅ ∅ rfl ∅
theorem qV:AK (relab ik (defScope (top 34))) ["place"]:=⟨∅⟩
theorem Aj:AG (relab ik (defScope (top 34))) ["is_place"]:=⟨∅⟩
theorem qW:AV (relab ik (defScope (top 34))) ["place", "counts"]:=⟨∅⟩
def kG:Scope:={ kind:=PySem.ScopeKind.function,names:=[ (PySem.Str.ofString ".0",PySem.NameKind.local),(PySem.Str.ofString "number",PySem.NameKind.local),(PySem.Str.ofString "paper",PySem.NameKind.free)],isGenerator:=false,isCoroutine:=false,more:=[]:PySem.Scope }
theorem qX:CompOk kG (defScope (top 34)) (["number"]:List Str) (["tables", "paper", "counts"]:List Str) [1] (["number", "paper"]:List Str):=compOk rfl ∅ ∅ ∅ ∅ rfl ∅
theorem qY:AK (relab kG (defScope (top 34))) ["number"]:=⟨∅⟩
theorem qZ:AV (relab kG (defScope (top 34))) ["number", "paper"]:=⟨∅⟩
def spSfa (C:Addr):Sp:=fun vs H Q _=>∃ (x b tt kt ot:Addr) (qs:List Addr) (ins:Nat) (ts:List Tb) (ks:List Kp) (os pp:List Plc),vs=[.ref x,.ref b]/\TlAt C H x ins tt kt ot ts ks os/\H b=some (.lst (qs.map V.ref))/\WsAt H (pp.map plK) qs/\pp.length<=300/\ks.length<=300/\ts.length<=300/\(∀ p∈pp,p.1≠.i/\p.2 < lim6 0 ks.length ts.length p.1)/\pp.Nodup/\(∀ j:Nat,j < ks.length->(Wd.k,j)∈pp)/\∀ H',Ch [] H H'->Q (.bl true) H'
theorem scSfa:FnScope ["tables", "paper", "counts"] ["tables", "paper"] (defScope (top 34)):=⟨rfl,rfl,rfl,∅,rfl,∅,∅⟩
theorem Ak (F:Fun K "stands_for_all" "stands_for_all" (top 34) f fd) (cl:Cls K C) (nK:NoAttr K C "keeps") (nT:NoAttr K C "tables") (Dis_place:DefOk P w K mg base CX0 k "is_place" ["thing", "counts"] spPlace) (z_len:mg "len" = none) (z_all:mg "all" = none) (z_set:mg "set" = none) (z_range:mg "range" = none):FnOk P w K mg base CX0 (k + 1) f fd ["tables", "paper"] (spSfa C):=by
 have nd:=scSfa.nd;refine F.ok scSfa (fun vs H Q E h=>by obtain ⟨x,b,tt,kt,ot,qs,ins,ts,ks,os,pp,rfl,_⟩:=h; rfl) (fun cdv A outer s H vs Q E hr h=>?_)
 obtain ⟨x,b,tt,kt,ot,qs,ins,ts,ks,os,pp,rfl,⟨⟨dx,hx⟩,tp⟩,hb,wp,l3,k3,t3,lm,nd2,ka,q⟩:=h;obtain ⟨tps,ht,tt'⟩:=tp.t;obtain ⟨kps,hk,kk⟩:=tp.k;have lt:=BH tt';have lk:=BH kk;have lq:=BH wp;rw [BF] at lq;refine ⟨_,(Pr.h (ah (ay (i:=2) nd rfl (av34.l 2 rfl) (eV (bU aM (aq aJ (gl34.g 0 rfl) z_len BY (aa (aH (qv av34 0 rfl) rfl) ab bH) aK aL) (bU aM (aq aJ (gl34.g 0 rfl) z_len BY (aa (aH (qv av34 0 rfl) rfl) ab bH) aK aL) eU)) rfl rfl (by intro z; cases z) (by decide))) (ah (aC (bz (bg (aX (aO (aq (cX rfl) (gl34.g 2 rfl) z_all cZ (aa (aR rfl qU (bj (qv av34 1 rfl)) (fun _ _ _ _ _=>(aj (i:=0) qU.nd rfl (Or.inl (qV.k 0 rfl)) (Or.inr (qV.k 0 rfl)))) (fun _ _ _ _ _=>aU) (fun _ _ _ _ _=>(ao Dis_place hr (Aj.g 0 rfl) pass0 (aa (qw qW 0 rfl) (aa (qw qW 1 rfl) ab ae) ae) fG))) ab bc) dc de))) (bJ (ax cx (yI rfl hr.units (gl34.g 0 rfl) z_len (gl34.g 1 rfl) z_set (aa (qv av34 1 rfl) ab ae)) (aq aJ (gl34.g 0 rfl) z_len BY (aa (qv av34 1 rfl) ab ae) aK aL) (nomark _))))) (ai (au bh)) aE) (ai (au (aq (cX rfl) (gl34.g 2 rfl) z_all cZ (aa (aR rfl qX (cV (gl34.g 3 rfl) z_range (aa (aq aJ (gl34.g 0 rfl) z_len BY (aa (aH (qv av34 0 rfl) rfl) ab bH) aK aL) ab bf)) (fun _ _ _ _ _=>(aj (i:=0) qX.nd rfl (Or.inl (qY.k 0 rfl)) (Or.inr (qY.k 0 rfl)))) (fun _ _ _ _ _=>aU) (fun _ _ _ _ _=>(cS (jq hr.units) (aN (aa aM (aa (qw qZ 0 rfl) ab ae) aV)) (qw qZ 1 rfl) rfl))) ab bc) dc de)))))),?_⟩
 (try dsimp only [cxOf])
 walk_at "rd";rename_i d hd;refine ⟨(show _=List.map (fun kv=>(kV kv.1,kv.2)) (cntK2 (kps.map V.ref).length (tps.map V.ref).length) from rfl),(by show (2:Nat)<=_; decide),?_⟩
 rw [show mergeK [] (cntK2 (kps.map V.ref).length (tps.map V.ref).length)=cntK2 (kps.map V.ref).length (tps.map V.ref).length from rfl,BF,BF,<- lk,<- lt];have c1:Ch [] H (upd (upd H d (.dK [])) d (.dK (cntK2 ks.length ts.length))):=Ch.own hd (Ch.new hd _);have g1:(upd (upd H d (.dK [])) d (.dK (cntK2 ks.length ts.length))) d=some (.dK (cntK2 ks.length ts.length)):=af;generalize upd (upd H d (.dK [])) d (.dK (cntK2 ks.length ts.length))=H1 at c1 g1 ⊢;have hb1:=c1.get hb (by simp)
 have wp1:WsAt H1 (pp.map plK) qs:=aF (fun _ _ h=>c1.get h (by simp)) wp
 have hx1:=c1.get hx (by simp)
 have hk1:=c1.get hk (by simp)
 walk_at "rd";refine bO (qs.map V.ref) (fun i ys σ H'=>H'=H1/\ys=(List.replicate i true).map V.bl/\∃ u,σ=[u,some (.ref d)]) (by walk_at "sz") ⟨rfl,rfl,_,rfl⟩ ?_ ?_ ?_
 ·rintro i ys σ H' hi ⟨rfl,rfl,_⟩
  exact ⟨by simp,SqL.of hb1⟩
 ·rintro i ys σ H' z hz ⟨rfl,rfl,u,rfl⟩
  obtain ⟨p,y,rfl,ey,hp⟩:=cP wp1 i z hz;obtain ⟨yi,yl⟩:=lm y (BO ey);have g1':H' d=some (.dK (cntK2 ks.length ts.length)):=g1;have cv:=Ai ks.length ts.length y.1 yi;have h0:(0:Int)<=(y.2:Int):=Dw _;have yl:=Int.ofNat_lt.mpr yl;walk_at "rd";rw [C7,BL];exact ⟨rfl,_,rfl⟩
 rintro ys σ H2 ⟨rfl,rfl,_⟩;intro D hD;have c2:=c1.trans (Ch.new (W:=[]) hD (.lst ((List.replicate (qs.map V.ref).length true).map V.bl)));have c3:=Ch.new (W:=[]) hD (.lst ((List.replicate (qs.map V.ref).length true).map V.bl));have gD:upd H2 D (.lst ((List.replicate (qs.map V.ref).length true).map V.bl)) D=some (.lst ((List.replicate (qs.map V.ref).length true).map V.bl)):=af;have hb2:=c3.get hb1 (by simp)
 have hx2:=c3.get hx1 (by simp)
 have hk2:=c3.get hk1 (by simp)
 have wp2:WsAt (upd H2 D (.lst ((List.replicate (qs.map V.ref).length true).map V.bl))) (pp.map plK) qs:=aF (fun _ _ h=>c3.get h (by simp)) wp1
 generalize upd H2 D (.lst ((List.replicate (qs.map V.ref).length true).map V.bl))=H3 at c2 gD hb2 hx2 hk2 wp2 ⊢;have ea:(List.replicate (qs.map V.ref).length true).all id=true:=by simp
 have tp2:Tups H3 qs (pp.map plK):=⟨by rw [BF]; exact lq.symm,fun i r e=>by
  obtain ⟨p,y,e0,e1,e2⟩:=bq wp2 i (.ref r) (by rw [BN,e]; rfl)
  cases e0;exact ⟨y,e1,e2⟩⟩
 walk_at "rd";rw [ea];walk_at "rd";have en:(ST.ddup (pp.map plK)).length=(qs.map V.ref).length:=by
  have z:=ST.ddup_nd (l:=pp.map plK);rw [BF,<- lq]
  simpa [qT nd2] using z
 refine ite2 (fun h=>absurd h (by rw [en]; simp)) (fun _=>?_)
 walk_at "rd";have sca:∀ k:Wr,ScaL (k.map kV):=fun k=>⟨fun x hx=>by
  obtain ⟨y,_,rfl⟩:=BQ.mp hx;cases y with
  | inl i=>exact .inl ⟨i,rfl⟩
  | inr x=>exact .inr ⟨x,rfl⟩⟩
 refine gj (fun m ys σ H'=>Ch [] H3 H'/\ys=(List.replicate m true).map V.bl/\∃ u,σ=[u,some (.ref b)]) (by rw [BR]; simp; omega) ⟨Ch.refl _ _,rfl,_,rfl⟩ ?_ ?_ ?_
 ·rintro m ys σ H' hm ⟨_,rfl,_⟩
  simp
 ·rintro m ys σ H' hm ⟨cc,rfl,u,rfl⟩
  have hm':m < ks.length:=by simp at hm; omega
  have hb':=cc.get hb2 (by simp)
  walk_at "rd";rename_i p hp;have cp:=cc.trans (Ch.new hp (.tup [.str "keep",.int (0 + (m:Int))]));have tl:TL (upd H' p (.tup [.str "keep",.int (0 + (m:Int))])) ((pp.map plK).map fun k=>k.map kV) (qs.map V.ref):=⟨by rw [BF,BF,BF,lq],fun i zs e=>by
   rw [BN] at e;obtain ⟨k0,e0,rfl⟩:=B5.mp e;have hi:=(BX.mp e0).1;have hq:i < qs.length:=by rw [BF] at hi; omega
   have h:=bN wp2 i hi hq;rw [(BX.mp e0).2] at h;exact ⟨sca k0,qs[i],by rw [BN,BJ hq]; rfl,cp.get h (by simp)⟩⟩
  refine ⟨sca [.inr "keep",.inl (0 + (m:Int))],aA hp hb',tl,?_⟩;have ey:(((pp.map plK).map fun k=>k.map kV).any fun zs=>decide (zs=[V.str "keep",.int (0 + (m:Int))]))=true:=by
   refine List.any_eq_true.mpr ⟨_,BQ.mpr ⟨_,BQ.mpr ⟨_,ka m hm',rfl⟩,rfl⟩,Co ?_⟩;rw [Int.zero_add];rfl
  show Ch [] H3 _/\_=_/\_;rw [C7,BL,<- ey];exact ⟨cp,rfl,_,rfl⟩
 rintro ys σ H4 ⟨cc,rfl,_⟩;intro E hE;have gE:upd H4 E (.lst ((List.replicate (((kps.map V.ref).length:Nat):Int).toNat true).map V.bl)) E=some (.lst ((List.replicate (((kps.map V.ref).length:Nat):Int).toNat true).map V.bl)):=af;have eb:(List.replicate (((kps.map V.ref).length:Nat):Int).toNat true).all id=true:=by simp
 have cE:=(c2.trans cc).trans (Ch.new (W:=[]) hE (.lst ((List.replicate (((kps.map V.ref).length:Nat):Int).toNat true).map V.bl)));generalize upd H4 E (.lst ((List.replicate (((kps.map V.ref).length:Nat):Int).toNat true).map V.bl))=H5 at gE cE ⊢;walk_at "rd";rw [eb];exact q _ cE
end
end

section
local macro_rules | `(tactic| walk_at "user")=>`(tactic| first
 | (apply xP; (focus with_reducible assumption); (focus with_reducible assumption); (focus with_reducible assumption)))
def nuK:Nat->List Plc->List (List Key × V)
 | _,[]=>[]
 | j,p :: pp=>(plK p,.int (j:Int)) :: nuK (j + 1) pp
theorem q5:∀ (pp:List Plc) (j:Nat),(nuK j pp).length=pp.length
 | [],_=>rfl
 | p :: pp,j=>by show (nuK (j + 1) pp).length + 1=_; rw [q5 pp]; rfl
theorem q8:∀ (pp:List Plc) (j:Nat),(nuK j pp).map (·.1)=pp.map plK
 | [],_=>rfl
 | p :: pp,j=>by show plK p :: (nuK (j + 1) pp).map (·.1)=_; rw [q8 pp]; rfl
theorem kH:∀ (pp:List Plc) (j:Nat) {p:Plc},p∈pp->valV (nuK j pp) (plK p)=some (.int ((j + pp.idxOf p:Nat):Int))
 | [],_,_,h=>by cases h
 | q :: pp,j,p,h=>by
  by_cases e:q=p
  ·subst e
   rw [List.idxOf_cons_self];exact cg rfl
  ·have m:p∈pp:=by simpa [B1 e] using h
   show valV ((plK q,_) :: nuK (j + 1) pp) _=_;have hi:(q :: pp).idxOf p=pp.idxOf p + 1:=by rw [List.idxOf_cons,show (q == p)=false from CB.mpr e]; rfl
   rw [bX (fun z=>e (kF z)),kH pp (j + 1) m,hi]
   exact Cs (fun n:Nat=>some (V.int (n:Int))) (by omega)
theorem q9:∀ (pp:List Plc) (j i:Nat) {p:Plc},pp[i]?=some p->(nuK j pp)[i]?=some (plK p,.int ((j + i:Nat):Int))
 | [],_,_,_,h=>by simp at h
 | q :: pp,j,0,p,h=>by cases h; rfl
 | q :: pp,j,i + 1,p,h=>by
  have:=q9 pp (j + 1) i (p:=p) (by simpa using h)
  rw [show j + 1 + i=j + (i + 1) by omega] at this
  simpa [nuK] using this
section
variable {P:Program}{w:World}{K:PySem.W.Frag}{mg:Str->Option Value}{base:Heap}{f:Addr}{fd:FuncData}{k:Nat}
theorem Al:Nd "wanted_tables" := ∅
theorem kK:Nd "sources_for" := ∅
theorem rf:Nd "Pack" := ∅
theorem av31:AF (defScope (top 31)) ["places", "numbers"]:=⟨∅⟩
def kM:Scope:={ kind:=PySem.ScopeKind.function,names:=[ (PySem.Str.ofString ".0",PySem.NameKind.local),(PySem.Str.ofString "place",PySem.NameKind.local),(PySem.Str.ofString "numbers",PySem.NameKind.free)],isGenerator:=false,isCoroutine:=false,more:=[]:PySem.Scope }
theorem rg:CompOk kM (defScope (top 31)) (["place"]:List Str) (["places", "numbers"]:List Str) [1] (["place", "numbers"]:List Str):=compOk rfl ∅ ∅ ∅ ∅ rfl ∅
theorem rh:AK (relab kM (defScope (top 31))) ["place"]:=⟨∅⟩
theorem il:AV (relab kM (defScope (top 31))) ["place", "numbers"]:=⟨∅⟩
def spSf:Sp:=fun vs H Q _=>∃ (a d:Addr) (ps:List Addr) (ls pp:List Plc),vs=[.ref a,.ref d]/\H a=some (.tup (ps.map V.ref))/\WsAt H (ls.map plK) ps/\H d=some (.dT (nuK 0 pp))/\(∀ p∈ls,Kn pp p)/\ls.length<=300/\∀ r rs H',Ch [] H H'->H r=none->H' r=some (.lst (rs.map V.ref))->WsAt H' ((ls.map (srcOf pp)).map srcK) rs->Q (.ref r) H'
theorem scSf:FnScope ["places", "numbers"] ["places", "numbers"] (defScope (top 31)):=⟨rfl,rfl,rfl,∅,rfl,∅,∅⟩
theorem Am (F:Fun K "sources_for" "sources_for" (top 31) f fd):FnOk P w K mg base CX0 (k + 1) f fd ["places", "numbers"] spSf:=by
 have nd:=scSf.nd;refine F.ok scSf (fun vs H Q E h=>by obtain ⟨a,d,ps,ls,pp,rfl,_⟩:=h; rfl) (fun cdv A outer s H vs Q E hr h=>?_)
 obtain ⟨a,d,ps,ls,pp,rfl,ha,ws,hd,kn,l3,q⟩:=h;have hu:=di hr;have lp:=BH ws;rw [BF] at lp;refine ⟨_,(Pr.h (ai (au (aR rfl rg (cU (qv av31 0 rfl)) (fun _ _ _ _ _=>(aj (i:=0) rg.nd rfl (Or.inl (rh.k 0 rfl)) (Or.inr (rh.k 0 rfl)))) (fun _ _ _ _ _=>aU) (fun _ _ _ _ _=>(nu (ax br (ak (cY K rfl) (qw il 0 rfl) ag (fun _ _=>rfl)) aM (nomark _)) (qw il 0 rfl) (aN (aa aM (aa (ck hu (qw il 1 rfl) (qw il 0 rfl) (fun _ _=>rfl)) ab aS) aV)))))))),?_⟩
 (try dsimp only [cxOf])
 walk_at "rd";refine dm (ps.map V.ref) (fun i ys σ H'=>Ch [] H H'/\(∃ rs,ys=rs.map V.ref/\WsAt H' (((ls.take i).map (srcOf pp)).map srcK) rs)/\∃ u,σ=[u,some (.ref d)]) (by walk_at "sz") ⟨Ch.refl _ _,⟨[],rfl,.nil⟩,_,rfl⟩ ?_ ?_ ?_
 ·rintro i ys σ H' hi ⟨c,⟨rs,rfl,wr⟩,_⟩
  refine ⟨?_,SqT.of (c.get ha (by simp))⟩
  have:=BH wr;rw [BF,BF,B8] at this;rw [BF];omega
 ·rintro i ys σ H' z hz ⟨c,⟨rs,rfl,wr⟩,u,rfl⟩
  obtain ⟨p,⟨x,n⟩,rfl,es,hp⟩:=cP (ws.tu (Tu.same c)) i z hz;have hm:=kn _ (BO es);rw [B0,es];have hd':=c.get hd (by simp)
  have fin:∀ (s:Src) (r:Addr) (H2:Hp),Ch [] H' H2->H2 r=some (.tup ((srcK s).map kV))->s=srcOf pp (x,n)->∃ rs1:List Addr,rs.map V.ref++[V.ref r]=rs1.map V.ref/\WsAt H2 (((ls.take i++(some (x,n)).toList).map (srcOf pp)).map srcK) rs1:=fun s r H2 c2 hr e=>⟨rs++[r],by simp,by
   rw [show (some (x,n)).toList=[(x,n)] from rfl,BL,BL];subst e;exact bu (R:=fun k p=>H2 p=some (.tup (List.map kV k))) hr (wr.tu (Tu.same c2))⟩
  cases x with
  | i =>
   walk_at "rd";exact ⟨fin (false,n) _ _ (Ch.refl _ _) hp rfl,_,rfl⟩
  | k =>
   have hv:=kH pp 0 (hm.resolve_left (by intro z; cases z))
   rw [Nat.zero_add] at hv;have hpk:H' p=some (.tup ((plK (Wd.k,n)).map kV)):=hp;walk_at "rd";rename_i T hT;exact ⟨fin (true,_) _ _ (Ch.new hT _) af rfl,_,rfl⟩
  | t =>
   have hv:=kH pp 0 (hm.resolve_left (by intro z; cases z))
   rw [Nat.zero_add] at hv;have hpk:H' p=some (.tup ((plK (Wd.t,n)).map kV)):=hp;walk_at "rd";rename_i T hT;exact ⟨fin (true,_) _ _ (Ch.new hT _) af rfl,_,rfl⟩
 ·rintro ys σ H' ⟨c,⟨rs,rfl,wr⟩,_⟩
  rw [BF,<- lp,B2] at wr;intro D hD;exact q D rs _ (c.trans (Ch.new hD _)) (chFree c hD) af (wr.tu (Tu.new _ hD))
def BkN (bl:Addr) (H:Hp) (b:Bk) (p:Addr):Prop:=∃ (lp:Addr) (sps:List Addr),lp ∉ [bl]/\H p=some (.tup [.ref lp,.int b.bits,.int b.kept,.int b.first])/\H lp=some (.lst (sps.map V.ref))/\WsAt H (b.ss.map srcK) sps
theorem BkN.kl{H:Hp} (k:Kl [bl] H H') {b:Bk}{p:Addr} (s:BkN bl H b p):BkN bl H' b p:=let ⟨lp,sps,n,h1,h2,ws⟩:=s; ⟨lp,sps,n,k.t _ _ h1,k.l _ _ n h2,WsAt.tu k.t ws⟩
theorem fT {α β:Type}{R:α->β->Prop}:∀ {xs:List α}{ys:List β}{xs':List α}{ys':List β},Paired R xs ys->Paired R xs' ys'->Paired R (xs++xs') (ys++ys')
 | _,_,_,_,.nil,h=>h
 | _,_,_,_,.cons a t,h=>.cons a (fT t h)
theorem Ch.inst{C:Addr} (hx:H x=none) (hd:H dx=none) (n:dx≠x):Ch [] H (upd (upd H dx (.own x)) x (.ins C dx [])):=(Ch.new hd _).trans (Ch.new (by rw [aD n.symm]; exact hx) _)
theorem Ch.forget {W:List Addr} (c:Ch W H H') (h:∀ w∈W,H w=none):Ch [] H H':=fun a o e _=>c a o e fun z=>by rw [h a z] at e; cases e
theorem Ch.made{x dx C:Addr} (hx:H x=none) (hd:H dx=none) (n:dx≠x) (c:Ch [x] (upd (upd H dx (.own x)) x (.ins C dx [])) H'):Ch [] H H' :=
 Ch.forget ((Ch.inst (C:=C) hx hd n).wk.trans c) (fun w hw=>by rw [B6.mp hw]; exact hx)
structure BW (H0 H':Hp) (bl:Addr) (bs:List Bk):Prop where
 ch:Ch [] H0 H'
 ex:∃ ps,H' bl=some (.lst (ps.map V.ref))/\Paired (BkN bl H') bs ps
theorem BW.new {H:Hp} (s:BW H0 H bl bs) (c:Ch [] H H'):BW H0 H' bl bs:=⟨s.ch.trans c,let ⟨ps,a,b⟩:=s.ex; ⟨ps,c.get a (by simp),aF (fun _ _=>BkN.kl (Kl.new c)) b⟩⟩
theorem BW.add{lp:Addr}{b:Bk}{sps:List Addr} (s:BW H0 H bl bs) (f:H0 bl=none) (hb:H bl=some (.lst (qs.map V.ref))) (hT:H T=none) (n:lp≠bl) (hl:H lp=some (.lst (sps.map V.ref))) (ws:WsAt H (b.ss.map srcK) sps) :
  BW H0 (upd (upd H T (.tup [.ref lp,.int b.bits,.int b.kept,.int b.first])) bl (.lst (qs.map V.ref++[V.ref T]))) bl (bs++[b]):=by
 obtain ⟨ps,a,pr⟩:=s.ex;rw [hb] at a;have e:qs.map V.ref=ps.map V.ref:=by injection a with a; injection a
 have cT:Ch [] H (upd H T (.tup [.ref lp,.int b.bits,.int b.kept,.int b.first])):=Ch.new hT _
 have kk:Kl [bl] H (upd (upd H T (.tup [.ref lp,.int b.bits,.int b.kept,.int b.first])) bl (.lst (qs.map V.ref++[V.ref T]))):=(Kl.new cT).trans (Kl.one Ch.put (cT.get hb (by simp)) (by simp))
 have nT:T≠bl:=(ar hb hT).symm;refine ⟨Ch.own f (s.ch.trans cT),ps++[T],by rw [af,e,BL]; rfl,bu ⟨lp,sps,by simpa using n,aB nT af,kk.l _ _ (by simpa using n) hl,WsAt.tu kk.t ws⟩ (aF (fun _ _=>BkN.kl kk) pr)⟩
theorem av32:AF (defScope (top 32)) ["tables", "paper", "numbers", "blocks", "word", "number", "keep", "table"]:=⟨∅⟩
theorem gl32:AG (defScope (top 32)) ["range", "len", "wanted_tables", "dict", "enumerate", "kept_table", "sources_for", "Pack"]:=⟨∅⟩
def kN:Scope:={ kind:=PySem.ScopeKind.function,names:=[(PySem.Str.ofString ".0",PySem.NameKind.local),(PySem.Str.ofString "number",PySem.NameKind.local)],isGenerator:=false,isCoroutine:=false,more:=[]:PySem.Scope }
theorem rn:CompOk kN (defScope (top 32)) (["number"]:List Str) (["tables", "paper", "numbers", "blocks", "word", "number", "keep", "table"]:List Str) [] (["number"]:List Str):=compOk rfl ∅ ∅ ∅ ∅ rfl ∅
theorem rq:AK (relab kN (defScope (top 32))) ["number"]:=⟨∅⟩
theorem An:AV (relab kN (defScope (top 32))) ["number"]:=⟨∅⟩
def kO:Scope:={ kind:=PySem.ScopeKind.function,names:=[(PySem.Str.ofString ".0",PySem.NameKind.local),(PySem.Str.ofString "number",PySem.NameKind.local)],isGenerator:=false,isCoroutine:=false,more:=[]:PySem.Scope }
theorem rA:CompOk kO (defScope (top 32)) (["number"]:List Str) (["tables", "paper", "numbers", "blocks", "word", "number", "keep", "table"]:List Str) [] (["number"]:List Str):=compOk rfl ∅ ∅ ∅ ∅ rfl ∅
theorem rB:AK (relab kO (defScope (top 32))) ["number"]:=⟨∅⟩
theorem Ao:AV (relab kO (defScope (top 32))) ["number"]:=⟨∅⟩
def kP:Scope:={ kind:=PySem.ScopeKind.function,names:=[ (PySem.Str.ofString ".0",PySem.NameKind.local),(PySem.Str.ofString "number",PySem.NameKind.local),(PySem.Str.ofString "place",PySem.NameKind.local)],isGenerator:=false,isCoroutine:=false,more:=[]:PySem.Scope }
theorem kQ:CompOk kP (defScope (top 32)) (["number", "place"]:List Str) (["tables", "paper", "numbers", "blocks", "word", "number", "keep", "table"]:List Str) [] (["number", "place"]:List Str):=compOk rfl ∅ ∅ ∅ ∅ rfl ∅
theorem ip:AK (relab kP (defScope (top 32))) ["number", "place"]:=⟨∅⟩
theorem rC:AV (relab kP (defScope (top 32))) ["number", "place"]:=⟨∅⟩
def spPacked (C CP:Addr):Sp:=fun vs H Q _=>∃ (x tt kt ot:Addr) (ins:Nat) (ts:List Tb) (ks:List Kp) (os:List Plc),vs=[.ref x]/\TlAt C H x ins tt kt ot ts ks os/\Okd ins ts ks os/\AOk ins (bls ts ks os) (ots ts ks os) /\
 ∀ T pk dx bt ot' pl pps H',Ch [] H H'->H pl=none->H' T=some (.tup [.ref pk,.ref pl])->H' pk=some (.ins CP dx (fldsP ins bt ot'))->PkT H' bt ot' (bls ts ks os) (ots ts ks os)->H' pl=some (.lst (pps.map V.ref))->WsAt H' ((ppr ts ks os).map plK) pps->Q (.ref T) H'
theorem scPacked:FnScope ["tables", "paper", "numbers", "blocks", "word", "number", "keep", "table"] ["tables"] (defScope (top 32)):=⟨rfl,rfl,rfl,∅,rfl,∅,∅⟩
theorem Ap (F:Fun K "packed" "packed" (top 32) f fd) (cl:Cls K C) (nI:NoAttr K C "ins") (nT:NoAttr K C "tables") (nK:NoAttr K C "keeps") (nO:NoAttr K C "outs") (Dwanted_tables:DefOk P w K mg base CX0 (k + 1) "wanted_tables" ["tables"] (spWt C)) (Dkept_table:DefOk P w K mg base CX0 (k + 1) "kept_table" ["tables", "place"] (spKt C)) (Dsources_for:DefOk P w K mg base CX0 (k + 1) "sources_for" ["places", "numbers"] spSf) (MkPack:MakeOk P w K mg base CX0 k CP "Pack" ["self", "ins", "blocks", "outs"] (spPack CP)) (z_range:mg "range" = none) (z_len:mg "len" = none) (z_dict:mg "dict" = none) (z_enumerate:mg "enumerate" = none):FnOk P w K mg base CX0 (k + 2) f fd ["tables"] (spPacked C CP):=by
 have nd:=scPacked.nd;refine F.ok scPacked (fun vs H Q E h=>by obtain ⟨x,tt,kt,ot,ins,ts,ks,os,rfl,_⟩:=h; rfl) (fun cdv A outer s H vs Q E hr h=>?_)
 obtain ⟨x,tt,kt,ot,ins,ts,ks,os,rfl,⟨⟨dx,hx⟩,tp⟩,ok,aok,q⟩:=h;have hrm:=hr;obtain ⟨tps,ht,tt'⟩:=tp.t;obtain ⟨kps,hk,kk⟩:=tp.k;obtain ⟨ops,ho,oo⟩:=tp.o;have lt:=BH tt';have lk:=BH kk;have lo:=BH oo;have t12:=ok.lt;have k12:=ok.lk;have o12:=ok.lo;refine ⟨_,(Pr.h (ah (eA (i:=1) nd rfl (av32.l 1 rfl) rfl rn (cV (gl32.g 0 rfl) z_range (aa (aq aJ (gl32.g 1 rfl) z_len BY (aa (aH (qv av32 0 rfl) rfl) ab bH) aK aL) ab bf)) (fun _ _ _ _ _=>(aj (i:=0) rn.nd rfl (Or.inl (rq.k 0 rfl)) (Or.inr (rq.k 0 rfl)))) (fun _ _ _ _ _=>aU) (fun _ _ _ _ _=>(aN (aa aM (aa (qw An 0 rfl) ab ae) aV))) rfl) (ah (bp (bM Cr PySem.F.slot_list_extend PySem.F.type_list_extend iR (qv av32 1 rfl) (aa (aR rfl rA (bj (ao Dwanted_tables hr (gl32.g 2 rfl) pass0 (aa (qv av32 0 rfl) ab ae) Al)) (fun _ _ _ _ _=>(aj (i:=0) rA.nd rfl (Or.inl (rB.k 0 rfl)) (Or.inr (rB.k 0 rfl)))) (fun _ _ _ _ _=>aU) (fun _ _ _ _ _=>(aN (aa aM (aa (qw Ao 0 rfl) ab ae) aV)))) ab bc))) (ah (ay (i:=2) nd rfl (av32.l 2 rfl) (aZ (ym hr.units rfl) (gl32.g 3 rfl) z_dict dP (aa (aR rfl kQ (fA .list (gl32.g 4 rfl) z_enumerate (aa (qv av32 1 rfl) ab ae)) (fun _ _ _ _ _=>(bP K 2 rfl rfl (aw (aj (i:=0) kQ.nd rfl (Or.inl (ip.k 0 rfl)) (Or.inr (ip.k 0 rfl))) (aw (aj (i:=1) kQ.nd rfl (Or.inl (ip.k 1 rfl)) (Or.inr (ip.k 1 rfl))) ba)))) (fun _ _ _ _ _=>aU) (fun _ _ _ _ _=>(aN (aa (qw rC 1 rfl) (aa (qw rC 0 rfl) ab ae) ae)))) ab bc) dQ dS)) (ah (ay (i:=3) nd rfl (av32.l 3 rfl) (bZ ab)) (ah (bK Ci rfl (bj (qv av32 1 rfl)) (cN rfl (aw (aj (i:=4) nd rfl (av32.l 4 rfl)) (aw (aj (i:=5) nd rfl (av32.l 5 rfl)) ba))) (ai (aC (ax br (qv av32 4 rfl) aM (nomark _)) (ah (ay (i:=6) nd rfl (av32.l 6 rfl) (ak az (aH (qv av32 0 rfl) rfl) (qv av32 5 rfl) (fun _ _=>rfl))) (ah (ay (i:=7) nd rfl (av32.l 7 rfl) (ao Dkept_table hr (gl32.g 5 rfl) pass0 (aa (qv av32 0 rfl) (aa (ak az (qv av32 6 rfl) ag (fun _ _=>rfl)) ab aS) ae) kE)) (ai (bp (bM Cr CG CH cy (qv av32 3 rfl) (aa (aN (aa (ao Dsources_for hr (gl32.g 6 rfl) pass0 (aa (ak az (qv av32 7 rfl) ag (fun _ _=>rfl)) (aa (qv av32 2 rfl) ab ae) aS) kK) (aa (ak az (qv av32 7 rfl) ag (fun _ _=>rfl)) (aa ag (aa (ak az (qv av32 6 rfl) ag (fun _ _=>rfl)) ab aS) aV) aS) bf)) ab dF)))))) (ah (ay (i:=7) nd rfl (av32.l 7 rfl) (ak az (aH (qv av32 0 rfl) rfl) (qv av32 5 rfl) (fun _ _=>rfl))) (ai (bp (bM Cr CG CH cy (qv av32 3 rfl) (aa (aN (aa (ao Dsources_for hr (gl32.g 6 rfl) pass0 (aa (ak az (qv av32 7 rfl) ag (fun _ _=>rfl)) (aa (qv av32 2 rfl) ab ae) aS) kK) (aa (ak az (qv av32 7 rfl) ag (fun _ _=>rfl)) (aa ag (aa ag ab aV) aV) aS) bf)) ab dF)))))))) (ai (au (aN (aa (gu MkPack hrm (gl32.g 7 rfl) pass0 (aa (aH (qv av32 0 rfl) rfl) (aa (qv av32 3 rfl) (aa (ao Dsources_for hr (gl32.g 6 rfl) pass0 (aa (aH (qv av32 0 rfl) rfl) (aa (qv av32 2 rfl) ab ae) bH) kK) ab bf) ae) bH) rf) (aa (qv av32 1 rfl) ab ae) bf)))))))))),?_⟩
 (try dsimp only [cxOf])
 walk_at "rd";refine gj (fun m ys σ H'=>Ch [] H H'/\(∃ ps,ys=ps.map V.ref/\WsAt H' (((List.range m).map fun n=>(Wd.k,n)).map plK) ps)/\∃ u,σ=[u]) (by rw [BR]; simp; omega) ⟨Ch.refl _ _,⟨[],rfl,.nil⟩,_,rfl⟩ ?_ ?_ ?_
 ·rintro m ys σ H' hm ⟨_,⟨ps,rfl,wp⟩,_⟩
  have:=BH wp;simp at this;rw [BF];omega
 ·rintro m ys σ H' hm ⟨c,⟨ps,rfl,wp⟩,u,rfl⟩
  walk_at "rd";rename_i p hp;refine ⟨⟨ps++[p],by simp,?_⟩,_,rfl⟩
  rw [List.range_succ,BL,BL];refine bu (R:=fun k r=>(upd H' p (.tup [.str "keep",.int (0 + (m:Int))])) r=some (.tup (List.map kV k))) ?_ (wp.tu (Tu.new _ hp))
  rw [af,Int.zero_add];rfl
 rintro ys σ H1 ⟨c1,⟨kqs,rfl,wk⟩,_⟩;have ek:(((kps.map V.ref).length:Nat):Int).toNat=ks.length:=by rw [BF,Dc,lk]
 rw [ek] at wk;intro pl hpl;have c2:Ch [] H (upd H1 pl (.lst (kqs.map V.ref))):=c1.trans (Ch.new hpl _);have fpl:H pl=none:=chFree c1 hpl;have g2:(upd H1 pl (.lst (kqs.map V.ref))) pl=some (.lst (kqs.map V.ref)):=af;have wk2:=wk.tu (Tu.new (.lst (kqs.map V.ref)) hpl);show tSeq _ _ _ _ (upd H1 pl (.lst (kqs.map V.ref)));generalize upd H1 pl (.lst (kqs.map V.ref))=H2 at c2 g2 wk2 ⊢;clear hpl wk c1;have tl2:TlAt C H2 x ins tt kt ot ts ks os:=⟨⟨dx,c2.get hx (by simp)⟩,tp.tu (Tu.same c2)⟩
 walk_at "rd";rename_i wl H3 c3 f3 g3;have wk3:=wk2.tu (Tu.same c3);have gp3:=c3.get g2 (by simp)
 have lw:=ie ts ks os;have c23:=c2.trans c3;refine bO (nvs (wtd ts ks os)) (fun m ys σ H'=>Ch [] H3 H'/\(∃ ps,ys=ps.map V.ref/\WsAt H' ((((wtd ts ks os).take m).map fun n=>(Wd.t,n)).map plK) ps)/\∃ u,σ=[u]) (by rw [BR,fe]; omega) ⟨Ch.refl _ _,⟨[],rfl,.nil⟩,_,rfl⟩ ?_ ?_ ?_
 ·rintro m ys σ H' hm ⟨c,⟨ps,rfl,wp⟩,_⟩
  have:=BH wp;rw [BF,BF,B8] at this;exact ⟨by rw [BF]; omega,SqL.of (c.get g3 (by simp))⟩
 ·rintro m ys σ H' z hz ⟨c,⟨ps,rfl,wp⟩,u,rfl⟩
  unfold nvs at hz;rw [BN] at hz;obtain ⟨n,hn,rfl⟩:=B5.mp hz;walk_at "rd";rename_i p hp;refine ⟨⟨ps++[p],by simp,?_⟩,_,rfl⟩
  rw [B0,hn,show (some n).toList=[n] from rfl,BL,BL];exact bu (R:=fun k r=>(upd H' p (.tup [.str "table",.int (n:Int)])) r=some (.tup (List.map kV k))) af (wp.tu (Tu.new _ hp))
 rintro ys σ H4 ⟨c4,⟨tqs,rfl,wt⟩,_⟩;rw [fe,B2] at wt;intro D hD;have lkq:ks.length=kqs.length:=by have:=BH wk3; simpa using this
 have ltq:(wtd ts ks os).length=tqs.length:=by have:=BH wt; simpa using this
 have gp5:(upd H4 D (.lst (tqs.map V.ref))) pl=some (.lst (kqs.map V.ref)):=aA hD (c4.get gp3 (by simp))
 have gD5:(upd H4 D (.lst (tqs.map V.ref))) D=some (.lst (tqs.map V.ref)):=af;have c5:Ch [] H (upd H4 D (.lst (tqs.map V.ref))):=(c23.trans c4).trans (Ch.new hD _);have w5:WsAt (upd H4 D (.lst (tqs.map V.ref))) ((ppr ts ks os).map plK) (kqs++tqs):=by
  unfold ppr;rw [BL];exact fT (wk3.tu (Tu.same (c4.trans (Ch.new hD _)))) (wt.tu (Tu.new _ hD))
 generalize upd H4 D (.lst (tqs.map V.ref))=H5 at gp5 gD5 c5 w5 ⊢;clear hD wt wk3 c4 gp3 g3 f3 c3 c23 tl2 wk2 g2 c2;have zl:(kqs.map V.ref).length + (tqs.map V.ref).length<=sizeLine:=by rw [BF,BF,BR]; omega
 have c6:Ch [] H (upd H5 pl (.lst (kqs.map V.ref++tqs.map V.ref))):=Ch.own fpl c5;have g6:(upd H5 pl (.lst (kqs.map V.ref++tqs.map V.ref))) pl=some (.lst ((kqs++tqs).map V.ref)):=by rw [af,BL]
 have w6:=w5.tu (Tu.lst (Ch.put (o:=HO.lst (kqs.map V.ref++tqs.map V.ref))) gp5);have lpp:(ppr ts ks os).length=(kqs++tqs).length:=by have:=BH w6; simpa using this
 have lp24:=e8 (ts:=ts) (ks:=ks) (os:=os);refine ⟨_,_,_,_,rfl,rfl,gp5,gD5,zl,?_⟩;show tSeq _ _ _ _ (upd H5 pl (.lst (kqs.map V.ref++tqs.map V.ref)));generalize upd H5 pl (.lst (kqs.map V.ref++tqs.map V.ref))=H6 at c6 g6 w6 ⊢;generalize kqs++tqs=pps at g6 w6 lpp;clear w5 c5 gD5 gp5 zl lkq ltq;have nd2:(ppr ts ks os).Nodup:=qR;have pk1:∀ n,(Wd.k,n)∈ppr ts ks os->n < ks.length:=fun n h=>dw.mp h
 have pk2:∀ n,(Wd.t,n)∈ppr ts ks os->Wn ts ks os n:=fun n h=>(cz ok).mp (e7.mp h)
 have pk3:∀ n,(Wd.i,n) ∉ ppr ts ks os:=fun n=>fQ
 have kno:=fun p (h:p∈os)=>e9 ok h
 have knk:=fun (k:Kp) (hk:k∈ks) p (h:p∈(ktab ts k.pl).ls)=>fR (os:=os) ok hk h
 have knt:=fun n t (e:ts[n]?=some t) (w:Wn ts ks os n) p (h:p∈t.ls)=>fc ok e w h
 unfold bls ots at aok q;generalize ppr ts ks os=pp at *;walk_at "rd";refine gm (pps.map V.ref) (fun i ys σ H'=>Ch [] H6 H'/\(∃ rs,ys=rs.map V.ref/\Paired (fun (kv:List Key × V) t=>∃ q,H' t=some (.tup [.ref q,kv.2])/\H' q=some (.tup (kv.1.map kV))) ((nuK 0 pp).take i) rs)/\∃ u v,σ=[u,v]) (by walk_at "sz") ⟨Ch.refl _ _,⟨[],rfl,.nil⟩,_,_,rfl⟩ ?_ ?_ ?_
 ·rintro i ys σ H' hi ⟨c,⟨rs,rfl,wp⟩,_⟩
  have:=BH wp;rw [B8] at this;refine ⟨by rw [BF]; omega,?_⟩
  exact SqL.of (c.get g6 (by simp))
 ·rintro i ys σ H' z T hz ⟨c,⟨rs,rfl,wp⟩,u,v,rfl⟩ hT
  obtain ⟨p,y,rfl,ey,hp⟩:=cP (w6.tu (Tu.same c)) i z hz;have ha:=q9 pp 0 i ey;rw [Nat.zero_add] at ha;walk_at "rd";rename_i T2 hT2;refine ⟨⟨rs++[T2],by simp,?_⟩,_,_,rfl⟩
  rw [B0,ha];have cc:Ch [] H' (upd (upd H' T (.tup [.int (i:Int),.ref p])) T2 (.tup [.ref p,.int (i:Int)])):=(Ch.new hT _).trans (Ch.new hT2 _);exact bu ⟨p,af,cc.get hp (by simp)⟩ (aF (fun _ _ ⟨q,a,b⟩=>⟨q,cc.get a (by simp),cc.get b (by simp)⟩) wp)
 rintro ys σ H7 ⟨c7,⟨rs,rfl,wp⟩,_⟩;have ln:=q5 pp 0;rw [BF,<- lpp,<- ln,B2] at wp;intro D hD;have cD:Ch [] H7 (upd H7 D (.lst (rs.map V.ref))):=Ch.new hD _;refine ⟨D,rs,nuK 0 pp,rfl,af,aF (fun _ _ ⟨q,a,b⟩=>⟨q,cD.get a (by simp),cD.get b (by simp)⟩) wp,by rw [q8]; exact qT nd2,by rw [ln]; omega,fun d hd=>?_⟩
 have c8:Ch [] H6 (upd (upd H7 D (.lst (rs.map V.ref))) d (.dT (nuK 0 pp))):=(c7.trans cD).trans (Ch.new hd _);have g8:(upd (upd H7 D (.lst (rs.map V.ref))) d (.dT (nuK 0 pp))) d=some (.dT (nuK 0 pp)):=af;show tSeq _ _ _ _ (upd (upd H7 D (.lst (rs.map V.ref))) d (.dT (nuK 0 pp)));generalize upd (upd H7 D (.lst (rs.map V.ref))) d (.dT (nuK 0 pp))=H8 at c8 g8 ⊢;clear hd cD hD wp c7 nd2;have gp8:=c8.get g6 (by simp)
 have w8:=w6.tu (Tu.same c8);have c08:=c6.trans c8;clear c6 g6 w6 c8;walk_at "rd";rename_i bl hbl;have b0:BW H8 (upd H8 bl (.lst [])) bl []:=⟨Ch.new hbl _,[],af,.nil⟩;refine dM (xs:=pps.map V.ref) (fun i σ H'=>BW H8 H' bl ((pp.take i).map (blk ts ks pp))/\∃ u4 u5 u6 u7,σ=[some (.ref x),some (.ref pl),some (.ref d),some (.ref bl),u4,u5,u6,u7]) ⟨b0,_,_,_,_,rfl⟩ ?_ ?_ ?_
 ·rintro i σ H' hi ⟨b,_⟩
  exact SqL.of (b.ch.get gp8 (by simp))
 ·clear b0
  rintro i z σ H' hz ⟨b,u4,u5,u6,u7,rfl⟩;obtain ⟨p,⟨wd,n⟩,rfl,ey,hp⟩:=cP (w8.tu (Tu.same b.ch)) i z hz;have em:=BO ey;rw [B0,ey,show (some (wd,n)).toList=[(wd,n)] from rfl,BL];have c0:=c08.trans b.ch;have g8':=b.ch.get g8 (by simp)
  have li:((pp.take i).map (blk ts ks pp)).length<=24:=by rw [BF,B8]; omega
  generalize (pp.take i).map (blk ts ks pp)=bs at b li ⊢;obtain ⟨bps,gb,pb⟩:=b.ex;have lbp:(bps.map V.ref).length<=24:=by rw [BF,<- BH pb]; exact li
  clear pb;cases wd with
  | i=>exact absurd em (pk3 n)
  | k =>
   have hn:=pk1 n em;have hl:n < kps.length:=by walk_at "lt"
   have ex:ks[n]?=some ks[n]:=BJ hn;have i1:atI (kps.map V.ref) (n:Int)=some (.ref kps[n]):=bW (by rw [BN,BJ hl]; rfl)
   obtain ⟨kpp,h1,h2⟩:=KpAt.tu (Tu.same c0) (bN kk n hn hl);have mk:=List.getElem_mem hn;have okk:=ok.k ks[n] mk;have tl:TlAt C H' x ins tt kt ot ts ks os:=⟨⟨dx,c0.get hx (by simp)⟩,tp.tu (Tu.same c0)⟩
   have kn1:=knk _ mk;have l4:(ktab ts ks[n].pl).ls.length<=300:=by have:=dX ok mk; omega
   have bk:blk ts ks pp (.k,n)=⟨(ktab ts ks[n].pl).ls.map (srcOf pp),(ktab ts ks[n].pl).bits,1,bi ks[n].f⟩:=by show (⟨(ktab ts (ks.getD n _).pl).ls.map _,(ktab ts (ks.getD n _).pl).bits,1,bi (ks.getD n _).f⟩:Bk)=_; rw [dg ex]
   walk_at "rd";refine ⟨fun e=>by rw [e] at okk; exact okk,fun r H2 c2 t2=>?_⟩
   obtain ⟨lp,qs,r1,r2,ws⟩:=t2;have gb2:=c2.get gb (by simp)
   have g82:=c2.get g8' (by simp)
   have h12:=c2.get h1 (by simp)
   have b2:=b.new c2;clear b gb g8' h1 h2 tl c2 c0;walk_at "rd";rename_i r3 rs3 H3 c3 f3 g3 w3 T hT;have:=(b2.new c3).add (b:=blk ts ks pp (.k,n)) hbl (c3.get gb2 (by simp)) hT (ar gb2 f3).symm g3 (by rw [bk]; exact w3)
   rw [bk] at this;exact ⟨by rw [B4,List.map_nil,bk]; exact this,_,_,_,_,rfl⟩
  | t =>
   have hw:=pk2 n em;have hn:=bQ ok hw;have hl:n < tps.length:=by walk_at "lt"
   have ex:ts[n]?=some ts[n]:=BJ hn;have i1:atI (tps.map V.ref) (n:Int)=some (.ref tps[n]):=bW (by rw [BN,BJ hl]; rfl)
   obtain ⟨lp,qs,h1,h2,ws⟩:=TbT.tu (Tu.same c0) (bN tt' n hn hl);have kn1:=knt n _ ex hw;have l4:ts[n].ls.length<=300:=by have:=(ok.t n _ ex).l4; omega
   have bk:blk ts ks pp (.t,n)=⟨ts[n].ls.map (srcOf pp),ts[n].bits,0,0⟩:=by show (⟨(ts.getD n _).ls.map _,(ts.getD n _).bits,0,0⟩:Bk)=_; rw [dg ex]
   walk_at "rd";rename_i r3 rs3 H3 c3 f3 g3 w3 T hT;have:=(b.new c3).add (b:=blk ts ks pp (.t,n)) hbl (c3.get gb (by simp)) hT (ar gb f3).symm g3 (by rw [bk]; exact w3)
   rw [bk] at this;exact ⟨by rw [B4,List.map_nil,bk]; exact this,_,_,_,_,rfl⟩
 ·rintro σ H9 ⟨b,u4,u5,u6,u7,rfl⟩
  rw [BF,<- lpp,B2] at b;have c9:=c08.trans b.ch;have hx9:=c9.get hx (by simp)
  have ho9:=c9.get ho (by simp)
  have oo9:=oo.tu (Tu.same c9);have g9:=b.ch.get g8 (by simp)
  have l3:os.length<=300:=by omega
  obtain ⟨bps,gb,pb⟩:=b.ex;walk_at "rd";rename_i r rs2 H2 c2 f2 g2 w2 y dy fy fdy ny;have cM:Ch [] H2 (upd (upd H2 dy (.own y)) y (.ins CP dy [])):=(Ch.new fdy _).trans (Ch.new (by rw [aD ny.symm]; exact fy) _)
  have gb3:(upd (upd H2 dy (.own y)) y (.ins CP dy [])) bl=some (.lst (bps.map V.ref)):=cM.get (c2.get gb (by simp)) (by simp)
  have g3:(upd (upd H2 dy (.own y)) y (.ins CP dy [])) r=some (.lst (rs2.map V.ref)):=cM.get g2 (by simp)
  refine ⟨⟨⟨bps,gb3,aF (fun b p ⟨lp,sps,n,h1,h2,ws⟩=>⟨lp,sps,(c2.trans cM).get h1 (by simp),(c2.trans cM).get h2 (by simp),ws.tu (Tu.same (c2.trans cM))⟩) pb⟩,⟨rs2,g3,w2.tu (Tu.same cM)⟩⟩,aok,fun bt ot' H3 c3 hy3 pk3=>?_⟩
  have cF:Ch [] H2 H3:=Ch.made fy fdy ny c3;walk_at "rd";rename_i T hT;have cT:=cF.trans (Ch.new hT (.tup [.ref y,.ref pl]));have cA:=c2.trans cT;exact q T y dy bt ot' pl pps _ (c9.trans cA) fpl af (aA hT hy3) (pk3.tu (Tu.new _ hT)) (cA.get (b.ch.get gp8 (by simp)) (by simp)) (w8.tu (Tu.same (b.ch.trans cA)))
end
end

section
theorem TlAt.new{H:Hp}{ins:Nat} (s:TlAt C H x ins tt kt ot ts ks os) (c:Ch [] H H'):TlAt C H' x ins tt kt ot ts ks os:=⟨let ⟨dx,h⟩:=s.ob; ⟨dx,c.get h (by simp)⟩,s.tp.tu (Tu.same c)⟩
local macro_rules | `(tactic| walk_at "user")=>`(tactic| (apply TlAt.new; (focus with_reducible assumption); (focus walk_at "ch")))
theorem rD (k:Key):Sca (kV k):=by
 cases k with
 | inl i=>exact .inl ⟨i,rfl⟩
 | inr x=>exact .inr ⟨x,rfl⟩
theorem rE (n:Nat):∀ k:Wr,Paired (EqN H n) (k.map kV) (k.map kV)
 | []=>.nil
 | x :: k=>.cons (EqN.sca (rD x) n) (rE n k)
theorem iq (n:Nat):∀ {ks:List Wr}{rs qs:List Addr},WsAt H ks rs->WsAt H ks qs->Paired (EqN H (n + 1)) (rs.map V.ref) (qs.map V.ref)
 | _,_,_,.nil,.nil=>.nil
 | k :: ks,_,_,.cons a r,.cons b t=>.cons (.inr ⟨_,_,_,_,rfl,rfl,a,b,rE n k⟩) (iq n r t)
theorem kR (e:ts[n]?=some t):blk ts ks pp (.t,n)=⟨t.ls.map (srcOf pp),t.bits,0,0⟩:=by show (⟨(ts.getD n _).ls.map _,(ts.getD n _).bits,0,0⟩:Bk)=_; rw [dg e]
theorem eJ{k:Kp} (e:ks[n]?=some k):blk ts ks pp (.k,n)=⟨(ktab ts k.pl).ls.map (srcOf pp),(ktab ts k.pl).bits,1,bi k.f⟩:=by show (⟨(ktab ts (ks.getD n _).pl).ls.map _,(ktab ts (ks.getD n _).pl).bits,1,bi (ks.getD n _).f⟩:Bk)=_; rw [dg e]
theorem kS (h:∀ p∈ls,Kn pp p):∀ s∈ls.map (srcOf pp),s.1=true->s.2 < pp.length:=fun s hs e=>by
 obtain ⟨⟨x,n⟩,hp,rfl⟩:=BQ.mp hs;have m:=h _ hp;cases x with
 | i=>cases e
 | k=>exact De (m.resolve_left (by intro z; cases z))
 | t=>exact De (m.resolve_left (by intro z; cases z))
section
variable {P:Program}{w:World}{K:PySem.W.Frag}{mg:Str->Option Value}{base:Heap}{f:Addr}{fd:FuncData}{k:Nat}
theorem rF:Nd "places_for" := ∅
theorem Aq:Nd "stands_for_all" := ∅
theorem Ar:Nd "block_holds" := ∅
theorem av35:AF (defScope (top 35)) ["tables", "block", "place", "paper", "leaves", "keep"]:=⟨∅⟩
theorem gl35:AG (defScope (top 35)) ["places_for", "kept_table"]:=⟨∅⟩
def spBh (C:Addr):Sp:=fun vs H Q _=>∃ (x b p pl tt kt ot:Addr) (ins:Nat) (ts:List Tb) (ks:List Kp) (os:List Plc) (q:Plc) (pps:List Addr),vs=[.ref x,.ref b,.ref p,.ref pl]/\TlAt C H x ins tt kt ot ts ks os/\Okd ins ts ks os/\q∈ppr ts ks os/\BkAt .tuple H (blk ts ks (ppr ts ks os) q) b/\H p=some (.tup [.str q.1.s,.int (q.2:Int)])/\H pl=some (.lst (pps.map V.ref))/\WsAt H ((ppr ts ks os).map plK) pps/\∀ H',Ch [] H H'->Q (.bl true) H'
theorem scBh:FnScope ["tables", "block", "place", "paper", "leaves", "keep"] ["tables", "block", "place", "paper"] (defScope (top 35)):=⟨rfl,rfl,rfl,∅,rfl,∅,∅⟩
theorem As (F:Fun K "block_holds" "block_holds" (top 35) f fd) (cl:Cls K C) (nT:NoAttr K C "tables") (nK:NoAttr K C "keeps") (Dplaces_for:DefOk P w K mg base CX0 k "places_for" ["sources", "paper"] spPf) (Dkept_table:DefOk P w K mg base CX0 k "kept_table" ["tables", "place"] (spKt C)):FnOk P w K mg base CX0 (k + 1) f fd ["tables", "block", "place", "paper"] (spBh C):=by
 have nd:=scBh.nd;refine F.ok scBh (fun vs H Q E h=>by obtain ⟨x,b,p,pl,tt,kt,ot,ins,ts,ks,os,q,pps,rfl,_⟩:=h; rfl) (fun cdv A outer s H vs Q E hr h=>?_)
 obtain ⟨x,b,p,pl,tt,kt,ot,ins,ts,ks,os,⟨wd,n⟩,pps,rfl,⟨⟨dx,hx⟩,tp⟩,ok,em,hb,hp,hpl,wp,q⟩:=h;obtain ⟨tps,ht,tt'⟩:=tp.t;obtain ⟨kps,hk,kk⟩:=tp.k;have lt:=BH tt';have lk:=BH kk;refine ⟨_,(Pr.h (ah (ay (i:=4) nd rfl (av35.l 4 rfl) (ao Dplaces_for hr (gl35.g 0 rfl) pass0 (aa (ak az (qv av35 1 rfl) ag (fun _ _=>rfl)) (aa (qv av35 3 rfl) ab ae) aS) rF)) (ah (aC (ax br (ak az (qv av35 2 rfl) ag (fun _ _=>rfl)) aM (nomark _)) (ai (au (bY (cS (oS hr.units) (aN (aa (qv av35 4 rfl) (aa (ak az (qv av35 1 rfl) ag (fun _ _=>rfl)) ab aS) ae)) (ak az (aH (qv av35 0 rfl) rfl) (ak az (qv av35 2 rfl) ag (fun _ _=>rfl)) (fun _ _=>rfl)) (nomark _)) (cJ (cS br (ak az (qv av35 1 rfl) ag (fun _ _=>rfl)) ag (nomark _)))))) aE) (ah (ay (i:=5) nd rfl (av35.l 5 rfl) (ak az (aH (qv av35 0 rfl) rfl) (ak az (qv av35 2 rfl) ag (fun _ _=>rfl)) (fun _ _=>rfl))) (ai (au (bY (cS (oS hr.units) (aN (aa (qv av35 4 rfl) (aa (ak az (qv av35 1 rfl) ag (fun _ _=>rfl)) ab aS) ae)) (ao Dkept_table hr (gl35.g 1 rfl) pass0 (aa (qv av35 0 rfl) (aa (ak az (qv av35 5 rfl) ag (fun _ _=>rfl)) ab aS) ae) kE) (nomark _)) (cJ (cS (xK hr.units) (i0 mG (qv av35 1 rfl) (i8 ag) i7) (aN (aa ag (aa (ak az (qv av35 5 rfl) ag (fun _ _=>rfl)) ab aS) aV)) (nomark _)))))))))),?_⟩
 (try dsimp only [cxOf])
 cases wd with
 | i=>exact absurd em fQ
 | t =>
  have wn:=(cz ok).mp (e7.mp em);have hn:=bQ ok wn;have et:ts[n]?=some ts[n]:=BJ hn;have hl:n < tps.length:=by walk_at "lt"
  have i1:atI (tps.map V.ref) (n:Int)=some (.ref tps[n]):=bW (by rw [BN,BJ hl]; rfl)
  have kn:=fun p h=>fc (os:=os) ok et wn (p:=p) h
  rw [kR et] at hb;obtain ⟨lb,sps,h1,h2,pg⟩:=hb;have h2:H lb=some (.tup (sps.map V.ref)):=h2;have ws:=pg;have lo:=kS kn;have l3:(ts[n].ls.map (srcOf (ppr ts ks os))).length<=300:=by rw [BF]; have:=(ok.t n _ et).l4; omega
  have ep:=ky kn;obtain ⟨lp,qs,g1,g2,wt⟩:=bN tt' n hn hl;have h1:H b=some (.tup [.ref lb,.int ts[n].bits,.int 0,.int 0]):=h1;have hp:H p=some (.tup [.str "table",.int (n:Int)]):=hp;walk_at "rd";rename_i r rs H2 c2 r2 w2 T hT;rw [ep] at w2;have cT:Ch [] H2 (upd H2 T (.tup [.ref r,.int ts[n].bits])):=Ch.new hT _;have cA:=c2.trans cT;refine ⟨.cons (.inr ⟨_,_,_,_,rfl,rfl,cT.get r2 (by simp),cA.get g2 (by simp),iq 2 (w2.tu (Tu.same cT)) (wt.tu (Tu.same cA))⟩) (.cons (EqN.sca (.inl ⟨_,rfl⟩) 4) .nil),?_⟩
  walk_at "rd";exact q _ cA
 | k =>
  have hn:=dw.mp em;have et:ks[n]?=some ks[n]:=BJ hn;have hl:n < kps.length:=by walk_at "lt"
  have i1:atI (kps.map V.ref) (n:Int)=some (.ref kps[n]):=bW (by rw [BN,BJ hl]; rfl)
  have mk:=List.getElem_mem hn;have kn:=fun p h=>fR (os:=os) ok mk (p:=p) h
  rw [eJ et] at hb;obtain ⟨lb,sps,h1,h2,pg⟩:=hb;have h2:H lb=some (.tup (sps.map V.ref)):=h2;have ws:=pg;have lo:=kS kn;have l3:((ktab ts ks[n].pl).ls.map (srcOf (ppr ts ks os))).length<=300:=by rw [BF]; have:=dX ok mk; omega
  have ep:=ky kn;obtain ⟨kpp,g1,g2⟩:=bN kk n hn hl;have h1:H b=some (.tup [.ref lb,.int (ktab ts ks[n].pl).bits,.int 1,.int (bi ks[n].f)]):=h1;have hp:H p=some (.tup [.str "keep",.int (n:Int)]):=hp;have okk:=ok.k ks[n] mk;have tl:TlAt C H x ins tt kt ot ts ks os:=⟨⟨dx,hx⟩,tp⟩;walk_at "rd";rename_i r rs H2 c2 r2 w2 T hT;rw [ep] at w2;have gT:(upd H2 T (.tup [.ref r,.int (ktab ts ks[n].pl).bits])) T=some (.tup [.ref r,.int (ktab ts ks[n].pl).bits]):=af;have cT:Ch [] H2 (upd H2 T (.tup [.ref r,.int (ktab ts ks[n].pl).bits])):=Ch.new hT _;refine ⟨fun e=>by rw [e] at okk; exact okk,fun r3 H3 c3 t3=>?_⟩
  obtain ⟨lp,qs,a1,a2,wt⟩:=t3;have cB:=cT.trans c3;have cA:=c2.trans cB;have gT3:=c3.get gT (by simp)
  have en:Paired (EqN H3 4) [V.ref r,.int (ktab ts ks[n].pl).bits] [V.ref lp,.int (ktab ts ks[n].pl).bits]:=.cons (.inr ⟨_,_,_,_,rfl,rfl,cB.get r2 (by simp),a2,iq 2 (w2.tu (Tu.same cB)) wt⟩) (.cons (EqN.sca (.inl ⟨_,rfl⟩) 4) .nil)
  have h13:=cA.get h1 (by simp)
  have g13:=cA.get g1 (by simp)
  clear cT gT hT c3;walk_at "rd";refine ⟨fun z=>absurd (show (2:Nat)=0 from z.1) (by decide),fun p2 hp2=>?_⟩
  have e2:cutV [V.ref lb,V.int (ktab ts ks[n].pl).bits,V.int 1,V.int (bi ks[n].f)] (some 2) none=[.int 1,.int (bi ks[n].f)]:=rfl;rw [e2];have g2':(upd H3 p2 (.tup [.int 1,.int (bi ks[n].f)])) p2=some (.tup [.int 1,.int (bi ks[n].f)]):=af;have g14:(upd H3 p2 (.tup [.int 1,.int (bi ks[n].f)])) kps[n]=some (.tup [bV ks[n].f,.ref kpp]):=aA hp2 g13;have sc:ScaL [V.int 1,.int (bi ks[n].f)]:=⟨fun z hz=>by
   rcases BV.mp hz with rfl | hz
   ·exact .inl ⟨_,rfl⟩
   ·rw [B6.mp hz]; exact .inl ⟨_,rfl⟩⟩
  have cC:=cA.trans (Ch.new hp2 (.tup [.int 1,.int (bi ks[n].f)]));generalize upd H3 p2 (.tup [.int 1,.int (bi ks[n].f)])=H4 at g2' g14 cC ⊢;unfold bV at g14;walk_at "rd";rename_i T2 hT2;rw [Co rfl];exact q _ (cC.trans (Ch.new hT2 _))
theorem gl36:AG (defScope (top 36)) ["all", "len", "is_listed", "stands_for_all", "places_for", "zip"]:=⟨∅⟩
theorem av36:AF (defScope (top 36)) ["tables", "pack", "paper", "stands"]:=⟨∅⟩
def ir:Scope:={ kind:=PySem.ScopeKind.function,names:=[ (PySem.Str.ofString ".0",PySem.NameKind.local),(PySem.Str.ofString "thing",PySem.NameKind.local),(PySem.Str.ofString "is_listed",PySem.NameKind.globalImplicit)],isGenerator:=false,isCoroutine:=false,more:=[]:PySem.Scope }
theorem rG:CompOk ir (defScope (top 36)) (["thing"]:List Str) (["tables", "pack", "paper", "stands"]:List Str) [] (["thing"]:List Str):=compOk rfl ∅ ∅ ∅ ∅ rfl ∅
theorem rH:AK (relab ir (defScope (top 36))) ["thing"]:=⟨∅⟩
theorem Au:AG (relab ir (defScope (top 36))) ["is_listed"]:=⟨∅⟩
theorem Av:AV (relab ir (defScope (top 36))) ["thing"]:=⟨∅⟩
def iu:Scope:={ kind:=PySem.ScopeKind.function,names:=[ (PySem.Str.ofString ".0",PySem.NameKind.local),(PySem.Str.ofString "thing",PySem.NameKind.local),(PySem.Str.ofString "tuple",PySem.NameKind.globalImplicit)],isGenerator:=false,isCoroutine:=false,more:=[]:PySem.Scope }
theorem rJ:CompOk iu (defScope (top 36)) (["thing"]:List Str) (["tables", "pack", "paper", "stands"]:List Str) [] (["thing"]:List Str):=compOk rfl ∅ ∅ ∅ ∅ rfl ∅
theorem rK:AK (relab iu (defScope (top 36))) ["thing"]:=⟨∅⟩
theorem Aw:AG (relab iu (defScope (top 36))) ["tuple"]:=⟨∅⟩
theorem Ax:AV (relab iu (defScope (top 36))) ["thing"]:=⟨∅⟩
def iw:Scope:={ kind:=PySem.ScopeKind.function,names:=[ (PySem.Str.ofString ".0",PySem.NameKind.local),(PySem.Str.ofString "block",PySem.NameKind.local),(PySem.Str.ofString "place",PySem.NameKind.local),(PySem.Str.ofString "block_holds",PySem.NameKind.globalImplicit),(PySem.Str.ofString "stands",PySem.NameKind.free),(PySem.Str.ofString "tables",PySem.NameKind.free)],isGenerator:=false,isCoroutine:=false,more:=[]:PySem.Scope }
theorem kU:CompOk iw (defScope (top 36)) (["block", "place"]:List Str) (["tables", "pack", "paper", "stands"]:List Str) [0,3] (["block", "place", "tables", "stands"]:List Str):=compOk rfl ∅ ∅ ∅ ∅ rfl ∅
theorem iz:AK (relab iw (defScope (top 36))) ["block", "place"]:=⟨∅⟩
theorem Ay:AG (relab iw (defScope (top 36))) ["block_holds"]:=⟨∅⟩
theorem iA:AV (relab iw (defScope (top 36))) ["block", "place", "tables", "stands"]:=⟨∅⟩
def spPh (C CP:Addr):Sp:=fun vs H Q _=>∃ (kd kd2:SK) (x pk pa tt kt ot bt ot' dk:Addr) (ins:Nat) (ts:List Tb) (ks:List Kp) (os:List Plc) (pps:List Addr),vs=[.ref x,.ref pk,.ref pa]/\TlAt C H x ins tt kt ot ts ks os/\Okd ins ts ks os/\H pk=some (.ins CP dk (fldsP ins bt ot'))/\PkT H bt ot' (bls ts ks os) (ots ts ks os)/\SqX kd H pa (pps.map V.ref)/\Paired (fun (k:Wr) p=>SqX kd2 H p (k.map kV)) ((ppr ts ks os).map plK) pps/\∀ H',Ch [] H H'->Q (.bl true) H'
theorem scPh:FnScope ["tables", "pack", "paper", "stands"] ["tables", "pack", "paper"] (defScope (top 36)):=⟨rfl,rfl,rfl,∅,rfl,∅,∅⟩
theorem Az (F:Fun K "pack_holds" "pack_holds" (top 36) f fd) (cl:Cls K C) (nI:NoAttr K C "ins") (nO:NoAttr K C "outs") (clP:Cls K CP) (pI:NoAttr K CP "ins") (pB:NoAttr K CP "blocks") (pO:NoAttr K CP "outs") (Dis_listed:DefOk P w K mg base CX0 k "is_listed" ["thing"] spListed) (Dstands_for_all:DefOk P w K mg base CX0 k "stands_for_all" ["tables", "paper"] (spSfa C)) (Dplaces_for:DefOk P w K mg base CX0 k "places_for" ["sources", "paper"] spPf) (Dblock_holds:DefOk P w K mg base CX0 k "block_holds" ["tables", "block", "place", "paper"] (spBh C)) (z_len:mg "len" = none) (z_all:mg "all" = none) (z_tuple:mg "tuple" = none) (z_zip:mg "zip" = none):FnOk P w K mg base CX0 (k + 1) f fd ["tables", "pack", "paper"] (spPh C CP):=by
 have nd:=scPh.nd;refine F.ok scPh (fun vs H Q E h=>by obtain ⟨kd,kd2,x,pk,pa,tt,kt,ot,bt,ot',dk,ins,ts,ks,os,pps,rfl,_⟩:=h; rfl) (fun cdv A outer s H vs Q E hr h=>?_)
 obtain ⟨kd,kd2,x,pk,pa,tt,kt,ot,bt,ot',dk,ins,ts,ks,os,pps,rfl,tl,ok,hpk,pkt,hpa,wp,q⟩:=h;obtain ⟨⟨dx,hx⟩,tp⟩:=id tl;obtain ⟨bps,hb,pb⟩:=pkt.b;obtain ⟨ops,ho,po⟩:=pkt.o;obtain ⟨oqs,hot,wo⟩:=tp.o;have lp:=BH wp;have lb:=BH pb;have lo:=BH po;rw [BF] at lp lo;have lbl:(bls ts ks os).length=(ppr ts ks os).length:=dW;have lp24:=e8 (ts:=ts) (ks:=ks) (os:=os);have t12:=ok.lt;have k12:=ok.lk;have o12:=ok.lo;have f1:=@fp_i ins bt ot';have f2:=@fp_b ins bt ot';have f3:=@fp_o ins bt ot';have f4:=@ft_i ins tt kt ot;have f5:=@ft_o ins tt kt ot;refine ⟨_,(Pr.h (ah (aC (bz (bg (aX (aO (ao Dis_listed hr (gl36.g 2 rfl) pass0 (aa (qv av36 2 rfl) ab ae) dH))) (bg (ax cx (aq aJ (gl36.g 1 rfl) z_len BY (aa (qv av36 2 rfl) ab ae) aK aL) (aq aJ (gl36.g 1 rfl) z_len BY (aa (aH (qv av36 1 rfl) rfl) ab bH) aK aL) (nomark _)) (bJ (aX (aO (aq (cX rfl) (gl36.g 0 rfl) z_all cZ (aa (aR rfl rG (eW K rfl kd (qv av36 2 rfl)) (fun _ _ _ _ _=>(aj (i:=0) rG.nd rfl (Or.inl (rH.k 0 rfl)) (Or.inr (rH.k 0 rfl)))) (fun _ _ _ _ _=>aU) (fun _ _ _ _ _=>(ao Dis_listed hr (Au.g 0 rfl) pass0 (aa (qw Av 0 rfl) ab ae) dH))) ab bc) dc de))))))) (ai (au bh)) aE) (ah (ay (i:=3) nd rfl (av36.l 3 rfl) (aR rfl rJ (eW K rfl kd (qv av36 2 rfl)) (fun _ _ _ _ _=>(aj (i:=0) rJ.nd rfl (Or.inl (rK.k 0 rfl)) (Or.inr (rK.k 0 rfl)))) (fun _ _ _ _ _=>aU) (fun _ _ _ _ _=>(aZ (jg K rfl) (Aw.g 0 rfl) z_tuple bD (aa (qw Ax 0 rfl) ab ae) bE bF)))) (ah (aC (aX (aO (ao Dstands_for_all hr (gl36.g 3 rfl) pass0 (aa (qv av36 0 rfl) (aa (qv av36 3 rfl) ab ae) ae) Aq))) (ai (au bh)) aE) (ah (aC (bz (bg (ax cx (aH (qv av36 1 rfl) rfl) (aH (qv av36 0 rfl) rfl) (nomark _)) (bJ (ax (yL hr.units) (ao Dplaces_for hr (gl36.g 4 rfl) pass0 (aa (aH (qv av36 1 rfl) rfl) (aa (qv av36 3 rfl) ab ae) bH) rF) (aH (qv av36 0 rfl) rfl) (nomark _))))) (ai (au bh)) aE) (ai (au (aq (cX rfl) (gl36.g 0 rfl) z_all cZ (aa (aR rfl kU (i9 .tuple .list (gl36.g 5 rfl) z_zip (aa (aH (qv av36 1 rfl) rfl) (aa (qv av36 3 rfl) ab ae) bH)) (fun _ _ _ _ _=>(bP K 2 rfl rfl (aw (aj (i:=0) kU.nd rfl (Or.inl (iz.k 0 rfl)) (Or.inr (iz.k 0 rfl))) (aw (aj (i:=1) kU.nd rfl (Or.inl (iz.k 1 rfl)) (Or.inr (iz.k 1 rfl))) ba)))) (fun _ _ _ _ _=>aU) (fun _ _ _ _ _=>(ao Dblock_holds hr (Ay.g 0 rfl) pass0 (aa (qw iA 2 rfl) (aa (qw iA 0 rfl) (aa (qw iA 1 rfl) (aa (qw iA 3 rfl) ab ae) ae) ae) ae) Ar))) ab bc) dc de)))))))),?_⟩
 (try dsimp only [cxOf])
 walk_at "rd";rename_i H1 c1;refine ⟨(hpa.ch c1).or,?_⟩;have hpk1:=c1.get hpk (by simp)
 have hb1:=c1.get hb (by simp)
 walk_at "rd";refine ite2 (fun hc=>absurd hc (by simp; omega)) (fun _=>?_)
 have wp1:=aF (fun (k:Wr) p (z:SqX kd2 H p (k.map kV))=>z.ch c1) wp
 have hpa1:=hpa.ch c1;walk_at "rd";refine ⟨⟨_,hpa1.sq⟩,?_⟩;refine fB (pps.map V.ref) (fun i ys σ H'=>Ch [] H1 H'/\ys=(List.replicate i true).map V.bl/\∃ u,σ=[u]) (by walk_at "sz") ⟨Ch.refl _ _,rfl,_,rfl⟩ ?_ ?_ ?_
 ·rintro i ys σ H' hi ⟨c,rfl,_⟩
  exact ⟨by simp,(hpa1.ch c).sq⟩
 ·rintro i ys σ H' z hz ⟨c,rfl,u,rfl⟩
  obtain ⟨p,y,rfl,ey,hp⟩:=bq wp1 i z hz;have hp':=hp.ch c;walk_at "rd";rename_i H2 c2;rw [C7,BL];exact ⟨rfl,_,rfl⟩
 rintro ys σ H2 ⟨c2,rfl,_⟩;intro D hD;have c3:Ch [] H1 (upd H2 D (.lst ((List.replicate (pps.map V.ref).length true).map V.bl))):=c2.trans (Ch.new hD _);have gD:(upd H2 D (.lst ((List.replicate (pps.map V.ref).length true).map V.bl))) D=some (.lst ((List.replicate (pps.map V.ref).length true).map V.bl)):=af;have ea:(List.replicate (pps.map V.ref).length true).all id=true:=by simp
 generalize upd H2 D (.lst ((List.replicate (pps.map V.ref).length true).map V.bl))=H3 at c3 gD ⊢;have hpa3:=hpa1.ch c3;have wp3:=aF (fun (k:Wr) p (z:SqX kd2 H1 p (k.map kV))=>z.ch c3) wp1
 have c03:=c1.trans c3;clear hD c2 wp1 hpa1 wp hpa hpk1 hb1 c3 c1;walk_at "rd";rw [ea];walk_at "rd";refine ⟨⟨_,hpa3.sq⟩,?_⟩;refine fB (pps.map V.ref) (fun i ys σ H'=>Ch [] H3 H'/\(∃ qs,ys=qs.map V.ref/\WsAt H' (((ppr ts ks os).take i).map plK) qs)/\∃ u,σ=[u]) (by walk_at "sz") ⟨Ch.refl _ _,⟨[],rfl,.nil⟩,_,rfl⟩ ?_ ?_ ?_
 ·rintro i ys σ H' hi ⟨c,⟨qs,rfl,wq⟩,_⟩
  have:=BH wq;rw [BF,B8] at this;exact ⟨by rw [BF]; omega,(hpa3.ch c).sq⟩
 ·rintro i ys σ H' z hz ⟨c,⟨qs,rfl,wq⟩,u,rfl⟩
  obtain ⟨p,y,rfl,ey,hp⟩:=bq wp3 i z hz;rw [BN] at ey;obtain ⟨pl,ep,rfl⟩:=B5.mp ey;have hp':=hp.ch c;rw [B0,ep,show (some pl).toList=[pl] from rfl,BL];cases kd2 with
  | list =>
   have hp':H' p=some (.lst ((plK pl).map kV)):=hp';walk_at "rd";rename_i l hl;exact ⟨⟨qs++[l],by simp,bu (R:=fun k r=>(upd H' l (.tup ((plK pl).map kV))) r=some (.tup (List.map kV k))) af (wq.tu (Tu.new _ hl))⟩,_,rfl⟩
  | tuple =>
   have hp':H' p=some (.tup ((plK pl).map kV)):=hp';walk_at "rd";exact ⟨⟨qs++[p],by simp,bu (R:=fun k r=>H' r=some (.tup (List.map kV k))) hp' wq⟩,_,rfl⟩
 rintro ys σ H4 ⟨c4,⟨qs,rfl,wq⟩,_⟩;rw [BF,<- lp,B2] at wq;intro st hst;have c5:Ch [] H3 (upd H4 st (.lst (qs.map V.ref))):=c4.trans (Ch.new hst _);have g5:(upd H4 st (.lst (qs.map V.ref))) st=some (.lst (qs.map V.ref)):=af;have w5:=wq.tu (Tu.new (.lst (qs.map V.ref)) hst);show tSeq _ _ _ _ (upd H4 st (.lst (qs.map V.ref)));generalize upd H4 st (.lst (qs.map V.ref))=H5 at c5 g5 w5 ⊢;have c05:=c03.trans c5;clear hst wq c4 wp3 hpa3 gD c5 c03;have t5:=tl.new c05;have hpk5:=c05.get hpk (by simp)
 have lm:∀ p∈ppr ts ks os,p.1≠.i/\p.2 < lim6 0 ks.length ts.length p.1:=by
  rintro ⟨x,n⟩ h;cases x with
  | i=>exact absurd h fQ
  | k=>exact ⟨(by intro z; cases z),dw.mp h⟩
  | t=>exact ⟨(by intro z; cases z),bQ ok ((cz ok).mp (e7.mp h))⟩
 have nd5:(ppr ts ks os).Nodup:=qR;have al5:∀ j:Nat,j < ks.length->(Wd.k,j)∈ppr ts ks os:=fun j h=>dw.mpr h
 have z1:(ppr ts ks os).length<=300:=by omega
 have z2:ks.length<=300:=by omega
 have z3:ts.length<=300:=by omega
 walk_at "rd";rename_i H6 c6;refine ite2 (fun hc=>absurd hc (by simp)) (fun _=>?_)
 have c06:=c05.trans c6;have g6:=c6.get g5 (by simp)
 have w6:=w5.tu (Tu.same c6);have t6:=t5.new c6;have hpk6:=c06.get hpk (by simp)
 have ho6:=c06.get ho (by simp)
 have wo6:=po.tu (Tu.same c06);have ko:=kS (fun p h=>e9 (ts:=ts) (ks:=ks) ok h)
 have z4:(ots ts ks os).length<=300:=by unfold ots; rw [BF]; omega
 have eo:(ots ts ks os).map (plOf (ppr ts ks os))=os:=ky (fun p h=>e9 (ts:=ts) (ks:=ks) ok h)
 have ko:∀ s∈ots ts ks os,s.1=true->s.2 < (ppr ts ks os).length:=ko;clear t5 hpk5 g5 w5 c6 c05;walk_at "rd";rename_i r rs H7 c7 r7 w7;rw [eo] at w7;refine ⟨iq 3 w7 (wo.tu (Tu.same (c06.trans c7))),?_⟩;have c07:=c06.trans c7;have g7:=c7.get g6 (by simp)
 have wq7:=w6.tu (Tu.same c7);have t7:=t6.new c7;have hpk7:=c07.get hpk (by simp)
 have hb7:=c07.get hb (by simp)
 have pb7:=dv c07 pb;clear t6 hpk6 ho6 wo6 w6 g6 c7 c06 r7 w7 lm al5 z1 z2 z3 z4 eo ko;have lq:(ppr ts ks os).length=qs.length:=by have:=BH wq7; simpa using this
 walk_at "rd";refine nE (bps.map V.ref) (qs.map V.ref) (fun j ys σ H'=>Ch [] H7 H'/\ys=(List.replicate j true).map V.bl/\∃ u v,σ=[u,v,some (.ref x),some (.ref st)]) (by walk_at "sz") (by rw [BF,BF]; omega) ⟨Ch.refl _ _,rfl,_,_,rfl⟩ ?_ ?_ ?_
 ·rintro j ys σ H' hj ⟨c,rfl,_⟩
  exact ⟨by simp,SqT.of (c.get hb7 (by simp)),SqL.of (c.get g7 (by simp))⟩
 ·rintro j ys σ H' z1 z2 T h1 h2 ⟨c,rfl,u,v,rfl⟩ hT
  obtain ⟨b,bb,rfl,eb,hbb⟩:=bq pb7 j z1 h1;obtain ⟨p,pl,rfl,ep,hp⟩:=cP wq7 j z2 h2;have cc:=c.trans (Ch.new hT (.tup [.ref b,.ref p]));rw [fS ep] at eb;cases eb;have hbk:BkAt .tuple (upd H' T (.tup [.ref b,.ref p])) (blk ts ks (ppr ts ks os) pl) b:=hbb.ch cc;have hp':=cc.get hp (by simp)
  have tl':=t7.new cc;have gl':=cc.get g7 (by simp)
  have wl':=wq7.tu (Tu.same cc);have em:=BO ep;walk_at "rd";rw [C7,BL];exact ⟨rfl,_,_,rfl⟩
 rintro ys σ H8 ⟨c8,rfl,_⟩;intro D hD;have ee:(List.replicate (bps.map V.ref).length true).all id=true:=by simp
 refine ⟨D,List.replicate (bps.map V.ref).length true,rfl,af,?_⟩;rw [ee];exact q _ ((c07.trans c8).trans (Ch.new hD _))
end
end

section
def Eqv:Nat->Hp->V->V->Prop
 | 0,_,_,_=>False
 | n + 1,H,x,y=>∃ kd:SK,(∃ k:Key,x=kV k/\y=kV k)\/∃ (p r:Addr) (xs ys:List V),x=.ref p/\y=.ref r/\SqX kd H p xs/\SqX kd H r ys/\Paired (Eqv n H) xs ys/\xs.length<=300
theorem Eqv.ch (c:Ch [] H H'):∀ {n:Nat}{x y:V},Eqv n H x y->Eqv n H' x y
 | 0,_,_,h=>h
 | n + 1,x,y,h=>by
  rcases h with ⟨kd,h | ⟨p,r,xs,ys,e1,e2,g1,g2,pr,l⟩⟩
  ·exact ⟨kd,.inl h⟩
  ·exact ⟨kd,.inr ⟨p,r,xs,ys,e1,e2,g1.ch c,g2.ch c,aF (fun _ _=>Eqv.ch c) pr,l⟩⟩
section
variable {P:Program}{w:World}{K:PySem.W.Frag}{mg:Str->Option Value}{base:Heap}{f:Addr}{fd:FuncData}{k:Nat}
theorem ff:Nd "_law_same" := ∅
theorem av46:AF (defScope (top 46)) ["_law_found", "_law_due"]:=⟨∅⟩
theorem gl46:AG (defScope (top 46)) ["isinstance", "dict", "len", "all", "tuple", "list", "zip", "str", "bool", "int"]:=⟨∅⟩
def iB:Scope:={ kind:=PySem.ScopeKind.function,names:=[ (PySem.Str.ofString ".0",PySem.NameKind.local),(PySem.Str.ofString "_law_name",PySem.NameKind.local),(PySem.Str.ofString "_law_same",PySem.NameKind.globalImplicit),(PySem.Str.ofString "_law_due",PySem.NameKind.free),(PySem.Str.ofString "_law_found",PySem.NameKind.free)],isGenerator:=false,isCoroutine:=false,more:=[]:PySem.Scope }
theorem rL:CompOk iB (defScope (top 46)) (["_law_name"]:List Str) (["_law_found", "_law_due"]:List Str) [0,1] (["_law_name", "_law_found", "_law_due"]:List Str):=compOk rfl ∅ ∅ ∅ ∅ rfl ∅
theorem rM:AK (relab iB (defScope (top 46))) ["_law_name"]:=⟨∅⟩
theorem AA:AG (relab iB (defScope (top 46))) ["_law_same"]:=⟨∅⟩
theorem fg:AV (relab iB (defScope (top 46))) ["_law_name", "_law_found", "_law_due"]:=⟨∅⟩
def iC:Scope:={ kind:=PySem.ScopeKind.function,names:=[ (PySem.Str.ofString ".0",PySem.NameKind.local),(PySem.Str.ofString "_law_one",PySem.NameKind.local),(PySem.Str.ofString "_law_other",PySem.NameKind.local),(PySem.Str.ofString "_law_same",PySem.NameKind.globalImplicit)],isGenerator:=false,isCoroutine:=false,more:=[]:PySem.Scope }
theorem kW:CompOk iC (defScope (top 46)) (["_law_one", "_law_other"]:List Str) (["_law_found", "_law_due"]:List Str) [] (["_law_one", "_law_other"]:List Str):=compOk rfl ∅ ∅ ∅ ∅ rfl ∅
theorem iD:AK (relab iC (defScope (top 46))) ["_law_one", "_law_other"]:=⟨∅⟩
theorem AB:AG (relab iC (defScope (top 46))) ["_law_same"]:=⟨∅⟩
theorem rN:AV (relab iC (defScope (top 46))) ["_law_one", "_law_other"]:=⟨∅⟩
structure EqvS (n:Nat) (H:Hp) (x y:V):Prop where
 h:Eqv n H x y
def spSame (n:Nat):Sp:=fun vs H Q _=>∃ (x y:V),vs=[x,y]/\EqvS n H x y/\∀ H',Ch [] H H'->Q (.bl true) H'
theorem scSame:FnScope ["_law_found", "_law_due"] ["_law_found", "_law_due"] (defScope (top 46)):=⟨rfl,rfl,rfl,∅,rfl,∅,∅⟩
theorem AD (F:Fun K "_law_same" "_law_same" (top 46) f fd):FnOk P w K mg base CX0 (k + 1) f fd ["_law_found", "_law_due"] (spSame 0) :=
 F.ok scSame (fun vs H Q E h=>by obtain ⟨x,y,rfl,_⟩:=h; rfl) (fun cdv A outer s H vs Q E hr h=>by obtain ⟨_,_,_,e,_⟩:=h; exact e.h.elim)
theorem fU (n:Nat) (F:Fun K "_law_same" "_law_same" (top 46) f fd) (D_law_same:DefOk P w K mg base CX0 k "_law_same" ["_law_found", "_law_due"] (spSame n)) (z_isinstance:mg "isinstance" = none) (z_dict:mg "dict" = none) (z_list:mg "list" = none) (z_tuple:mg "tuple" = none) (z_str:mg "str" = none) (z_int:mg "int" = none) (z_bool:mg "bool" = none) (z_len:mg "len" = none) (z_all:mg "all" = none) (z_zip:mg "zip" = none) :
  FnOk P w K mg base CX0 (k + 1) f fd ["_law_found", "_law_due"] (spSame (n + 1)):=by
 have nd:=scSame.nd;refine F.ok scSame (fun vs H Q E h=>by obtain ⟨x,y,rfl,_⟩:=h; rfl) (fun cdv A outer s H vs Q E hr h=>?_)
 obtain ⟨x,y,rfl,⟨⟨kd,e⟩⟩,q⟩:=h;refine ⟨_,(Pr.h (ah (aC (ax mi (qv av46 1 rfl) dN (nomark _)) (ai (au (cS mi (qv av46 0 rfl) dN (nomark _)))) aE) (ah (aC (aO (aq bI (gl46.g 0 rfl) z_isinstance bA (aa (qv av46 1 rfl) (aa (bw (v:=.ty "dict") (gl46.g 1 rfl) z_dict dP rfl dQ dS) ab)) bB bC)) (ah (aC (bz (bg (aX (aO (aq bI (gl46.g 0 rfl) z_isinstance bA (aa (qv av46 0 rfl) (aa (bw (v:=.ty "dict") (gl46.g 1 rfl) z_dict dP rfl dQ dS) ab)) bB bC))) (bJ (ax cx (aq aJ (gl46.g 2 rfl) z_len BY (aa (qv av46 0 rfl) ab ae) aK aL) (aq aJ (gl46.g 2 rfl) z_len BY (aa (qv av46 1 rfl) ab ae) aK aL) (nomark _))))) (ai (au bh)) aE) (ai (au (aq (cX rfl) (gl46.g 3 rfl) z_all cZ (aa (aR rfl rL (eW K rfl kd (qv av46 1 rfl)) (fun _ _ _ _ _=>(aj (i:=0) rL.nd rfl (Or.inl (rM.k 0 rfl)) (Or.inr (rM.k 0 rfl)))) (fun _ _ _ _ _=>aU) (fun _ _ _ _ _=>(bY (cS (xE K rfl) (qw fg 0 rfl) (qw fg 1 rfl) rfl) (cJ (ao D_law_same hr (AA.g 0 rfl) pass0 (aa (ak (gz K rfl) (qw fg 1 rfl) (qw fg 0 rfl) (fun _ _=>rfl)) (aa (ak (gz K rfl) (qw fg 2 rfl) (qw fg 0 rfl) (fun _ _=>rfl)) ab aS) aS) ff))))) ab bc) dc de)))) aE) (ah (aC (bz (bg (aO (aq bI (gl46.g 0 rfl) z_isinstance bA (aa (qv av46 1 rfl) (aa (bw (v:=.ty "list") (gl46.g 5 rfl) z_list cm rfl cu cw) ab)) bB bC)) (bJ (aO (aq bI (gl46.g 0 rfl) z_isinstance bA (aa (qv av46 1 rfl) (aa (bw (v:=.ty "tuple") (gl46.g 4 rfl) z_tuple bD rfl bE bF) ab)) bB bC))))) (ah (aC (ax cx (aq bI (gl46.g 0 rfl) z_isinstance bA (aa (qv av46 0 rfl) (aa (bw (v:=.ty "list") (gl46.g 5 rfl) z_list cm rfl cu cw) ab)) bB bC) (aq bI (gl46.g 0 rfl) z_isinstance bA (aa (qv av46 1 rfl) (aa (bw (v:=.ty "list") (gl46.g 5 rfl) z_list cm rfl cu cw) ab)) bB bC) (nomark _)) (ai (au bh)) aE) (ah (aC (bz (bg (ax cx (aq bI (gl46.g 0 rfl) z_isinstance bA (aa (qv av46 0 rfl) (aa (bw (v:=.ty "tuple") (gl46.g 4 rfl) z_tuple bD rfl bE bF) ab)) bB bC) (aq bI (gl46.g 0 rfl) z_isinstance bA (aa (qv av46 1 rfl) (aa (bw (v:=.ty "tuple") (gl46.g 4 rfl) z_tuple bD rfl bE bF) ab)) bB bC) (nomark _)) (bJ (ax cx (aq aJ (gl46.g 2 rfl) z_len BY (aa (qv av46 0 rfl) ab ae) aK aL) (aq aJ (gl46.g 2 rfl) z_len BY (aa (qv av46 1 rfl) ab ae) aK aL) (nomark _))))) (ai (au bh)) aE) (ai (au (aq (cX rfl) (gl46.g 3 rfl) z_all cZ (aa (aR rfl kW (i9 kd kd (gl46.g 6 rfl) z_zip (aa (qv av46 0 rfl) (aa (qv av46 1 rfl) ab ae) ae)) (fun _ _ _ _ _=>(bP K 2 rfl rfl (aw (aj (i:=0) kW.nd rfl (Or.inl (iD.k 0 rfl)) (Or.inr (iD.k 0 rfl))) (aw (aj (i:=1) kW.nd rfl (Or.inl (iD.k 1 rfl)) (Or.inr (iD.k 1 rfl))) ba)))) (fun _ _ _ _ _=>aU) (fun _ _ _ _ _=>(ao D_law_same hr (AB.g 0 rfl) pass0 (aa (qw rN 0 rfl) (aa (qw rN 1 rfl) ab ae) ae) ff))) ab bc) dc de))))) aE) (ah (aC (aO (aq bI (gl46.g 0 rfl) z_isinstance bA (aa (qv av46 1 rfl) (aa (bw (v:=.ty "str") (gl46.g 7 rfl) z_str ju rfl jv jw) ab)) bB bC)) (ai (au (bY (aq bI (gl46.g 0 rfl) z_isinstance bA (aa (qv av46 0 rfl) (aa (bw (v:=.ty "str") (gl46.g 7 rfl) z_str ju rfl jv jw) ab)) bB bC) (cJ (cS br (qv av46 0 rfl) (qv av46 1 rfl) (nomark _)))))) aE) (ai (au (bY (aq bI (gl46.g 0 rfl) z_isinstance bA (aa (qv av46 0 rfl) (aa (bw (v:=.ty "int") (gl46.g 9 rfl) z_int oX rfl oY oZ) ab)) bB bC) (bY (ni (aq bI (gl46.g 0 rfl) z_isinstance bA (aa (qv av46 0 rfl) (aa (bw (v:=.ty "bool") (gl46.g 8 rfl) z_bool oU rfl oV oW) ab)) bB bC)) (cJ (cS br (qv av46 0 rfl) (qv av46 1 rfl) (nomark _)))))))))))),?_⟩
 (try dsimp only [cxOf])
 rcases e with ⟨kk,rfl,rfl⟩ | ⟨p,r,xs,ys,rfl,rfl,h1,h2,pr,l⟩
 ·cases kk <;>
  ·dsimp only [kV]
   walk_at "rd";rw [Co rfl];exact q _ (Ch.refl _ _)
 ·have el:=BH pr
  have s1:SqL K H p xs\/SqT K H p xs:=h1.or;have s2:SqL K H r ys\/SqT K H r ys:=h2.or;cases kd <;>
  ·have g1:=h1
   have g2:=h2
   dsimp only [SqX] at g1 g2
   walk_at "rd";refine iteNn (by rw [el]) ?_
   walk_at "rd";refine nE xs ys (fun j zs σ H'=>Ch [] H H'/\zs=List.replicate j (V.bl true)/\∃ u v,σ=[u,v]) (by rw [BR]; omega) el ⟨Ch.refl _ _,rfl,_,_,rfl⟩ ?_ ?_ ?_
   ·rintro j zs σ H' hj ⟨c,rfl,_⟩
    exact ⟨by simp,(h1.ch c).sq,(h2.ch c).sq⟩
   ·rintro j zs σ H' x z T hx hz ⟨c,rfl,u,v,rfl⟩ hT
    obtain ⟨j1,rfl⟩:=BX.mp hx;obtain ⟨j2,rfl⟩:=BX.mp hz;have ee:EqvS n (upd H' T (.tup [xs[j],ys[j]])) xs[j] ys[j]:=⟨Eqv.ch (c.trans (Ch.new hT _)) (bN pr j j1 j2)⟩;walk_at "rd";exact ⟨by rw [<- C7],_,_,rfl⟩
   ·rintro zs σ H' ⟨c,rfl,_⟩
    intro D hD;refine ⟨D,List.replicate xs.length true,rfl,by rw [af,List.map_replicate],?_⟩
    rw [show (List.replicate xs.length true).all id=true from by simp [List.all_replicate]]
    exact q _ (c.trans (Ch.new hD _))
end
end

section
theorem DQ.kl {K:PySem.W.Frag}{a b:Addr}{ns:List Int}{c c':Int} (d:DQ K H H' a b ns c) (h:H b=some (.lst [.int c'])) (m:b∈ex):Kl ex H H':=Kl.one d.ch h m
structure TLs (K:PySem.W.Frag) (H H':Hp) (a b:Addr) (ns:List Int) (tl:Addr) (ins keeps:Nat) (ts:List Tb) (c:Int):Prop where
 d:DQ K H H' a b ns c
 tb:∃ ps,H' tl=some (.lst (ps.map V.ref))/\Paired (TbL [b,tl] H') ts ps
 ok:∀ (i:Nat) (t:Tb),ts[i]?=some t->t.ok ins keeps i
structure KI (K:PySem.W.Frag) (H H':Hp) (a b:Addr) (ns:List Int) (kl:Addr) (ins keeps n:Nat) (ks:List Kp) (c:Int):Prop where
 d:DQ K H H' a b ns c
 ex:∃ qs,H' kl=some (.lst (qs.map V.ref))/\Paired (KpAt H') ks qs
 lo:∀ x∈ks,x.pl.2 < lim6 ins keeps n x.pl.1
def OpAt (H:Hp) (o:Option Plc) (v:V):Prop:=match o with
 | none=>v=.non
 | some x=>∃ p,v=.ref p/\H p=some (.tup [.str x.1.s,.int (x.2:Int)])
theorem OpAt.tu {H:Hp} (t:Tu H H') {o:Option Plc}{v:V} (s:OpAt H o v):OpAt H' o v:=by
 cases o with
 | none=>exact s
 | some x=>obtain ⟨p,e,h⟩:=s; exact ⟨p,e,t _ _ h⟩
structure OL (K:PySem.W.Frag) (H H':Hp) (a b:Addr) (ns:List Int) (ins keeps n:Nat) (os:List (Option Plc)) (ys:List V) (c:Int):Prop where
 d:DQ K H H' a b ns c
 ex:Paired (OpAt H') os ys
 lo:∀ x,some x∈os->x.2 < lim6 ins keeps n x.1
theorem opget:∀ {os:List (Option Plc)}{ys:List V},Paired (OpAt H) os ys->∀ (i:Nat) (v:V),ys[i]?=some v->∃ o,os[i]?=some o/\OpAt H o v
 | _,_,.nil,i,x,h=>by simp at h
 | k :: ws,p :: ps,.cons a t,0,x,h=>⟨k,rfl,by cases h; exact a⟩
 | k :: ws,p :: ps,.cons a t,i + 1,x,h=>by
  obtain ⟨o,e1,e2⟩:=opget t i x (by simpa using h)
  exact ⟨o,by simpa using e1,e2⟩
theorem TbL.weak {t:Addr}{x:Tb}{p:Addr} (s:TbL [b,t] H x p):TbL [b] H x p:=let ⟨lp,ps,n,a,b,w⟩:=s; ⟨lp,ps,by simp only [BV,Cp,Cq,not_or] at n ⊢; exact n.1,a,b,w⟩
theorem WsAt.snoc{x:Plc}{p:Addr} (hp:H p=some (.tup [.str x.1.s,.int (x.2:Int)])) (s:WsAt H (ls.map plK) ps):WsAt H ((ls++[x]).map plK) (ps++[p]):=by
 rw [BL];exact bu (R:=fun (k:Wr) (p:Addr)=>H p=some (.tup (k.map kV))) hp s
theorem AE (h:n<=4):atI [V.int 2,V.int 4,V.int 16,V.int 256,V.int 65536] (n:Int)=some (.int (room n)):=by
 have e5:n=0\/n=1\/n=2\/n=3\/n=4:=by omega
 rcases e5 with rfl | rfl | rfl | rfl | rfl <;> rfl
theorem AH (h:n<=4):0 < room n/\room n<=65536:=by
 have e5:n=0\/n=1\/n=2\/n=3\/n=4:=by omega
 rcases e5 with rfl | rfl | rfl | rfl | rfl <;> decide
section
variable {P:Program}{w:World}{K:PySem.W.Frag}{mg:Str->Option Value}{base:Heap}{f:Addr}{fd:FuncData}{k:Nat}
theorem AI:bootBuiltins "min" = some (.builtin "min"):=∅
theorem AJ:("min" : Str) ≠ "__name__" := ∅
theorem AL:Nd "min" := ∅
theorem kX:Nd "_law_drawn_place" := ∅
theorem av47:AF (defScope (top 47)) ["_law_script", "_law_at", "_law_ins", "_law_keeps", "_law_tables", "_law_m", "_law_k"]:=⟨∅⟩
theorem gl47:AG (defScope (top 47)) ["_law_next", "min"]:=⟨∅⟩
def spDp (K:PySem.W.Frag):Sp:=fun vs H Q _=>∃ (a b:Addr) (ns:List Int) (c:Int) (i k t:Nat),vs=[.ref a,.ref b,.int (i:Int),.int (k:Int),.int (t:Int)]/\Scr K H a ns/\H b=some (.lst [.int c])/\0<=c/\c < 2 ^ 58 /\
 (i + k + t=0->∀ H',Ch [b] H H'->H' b=some (.lst [.int (c + 1)])->Q .non H') /\
 ∀ (p:Addr) (x:Plc) (H':Hp),Ch [b] H H'->H' b=some (.lst [.int (c + 1)])->x.2 < lim6 i k t x.1->H' p=some (.tup [.str x.1.s,.int (x.2:Int)])->Q (.ref p) H'
theorem scDp:FnScope ["_law_script", "_law_at", "_law_ins", "_law_keeps", "_law_tables", "_law_m", "_law_k"] ["_law_script", "_law_at", "_law_ins", "_law_keeps", "_law_tables"] (defScope (top 47)):=⟨rfl,rfl,rfl,∅,rfl,∅,∅⟩
theorem AM (F:Fun K "_law_drawn_place" "_law_drawn_place" (top 47) f fd) (D_law_next:DefOk P w K mg base CX0 k "_law_next" ["_law_script", "_law_at"] (spNext K)) (z_min:mg "min" = none):FnOk P w K mg base CX0 (k + 1) f fd ["_law_script", "_law_at", "_law_ins", "_law_keeps", "_law_tables"] (spDp K):=by
 have nd:=scDp.nd;refine F.ok scDp (fun vs H Q E h=>by obtain ⟨a,b,ns,c,i,k,t,rfl,_⟩:=h; rfl) (fun cdv A outer s H vs Q E hr h=>?_)
 obtain ⟨a,b,ns,c,i,kk,t,rfl,hS,hb,h0,h1,q0,q⟩:=h;refine ⟨_,(Pr.h (ah (ay (i:=5) nd rfl (av47.l 5 rfl) (ao D_law_next hr (gl47.g 0 rfl) pass0 (aa (qv av47 0 rfl) (aa (qv av47 1 rfl) ab ae) ae) eG)) (ah (aC (ax br (av cH (av cH (qv av47 2 rfl) (qv av47 3 rfl)) (qv av47 4 rfl)) ag (nomark _)) (ai (au dN)) aE) (ah (ay (i:=6) nd rfl (av47.l 6 rfl) (av bG (av dj (qv av47 5 rfl) ag) (av cH (av cH (qv av47 2 rfl) (qv av47 3 rfl)) (qv av47 4 rfl)))) (ah (aC (bz (i3 (ax br (av bG (qv av47 5 rfl) ag) ag (nomark _)) (i6 (ax eP (qv av47 4 rfl) ag (nomark _))))) (ai (au (aN (aa aM (aa (av dY (av dY (qv av47 4 rfl) ag) (av bG (av dj (qv av47 5 rfl) ag) (aq (uO rfl) (gl47.g 1 rfl) z_min AI (aa ag (aa (qv av47 4 rfl) ab ae) aV) AJ AL))) ab bT) aV)))) aE) (ah (aC (ax eO (qv av47 6 rfl) (qv av47 2 rfl) (nomark _)) (ai (au (aN (aa aM (aa (qv av47 6 rfl) ab ae) aV)))) aE) (ah (aC (ax eO (qv av47 6 rfl) (av cH (qv av47 2 rfl) (qv av47 3 rfl)) (nomark _)) (ai (au (aN (aa aM (aa (av dY (qv av47 6 rfl) (qv av47 2 rfl)) ab bT) aV)))) aE) (ai (au (aN (aa aM (aa (av dY (av dY (qv av47 6 rfl) (qv av47 2 rfl)) (qv av47 3 rfl)) ab bT) aV))))))))))),?_⟩
 (try dsimp only [cxOf])
 walk_at "rd";rename_i m H1 m0 m1 c1 b1;have fin:∀ (x:Plc) (n:Int) (T:Addr),n=(x.2:Int)->x.2 < lim6 i kk t x.1->H1 T=none->Q (.ref T) (upd H1 T (.tup [.str x.1.s,.int n])):=fun x n T e l hT=>q T x _ (c1.trans (Ch.new hT _).wk) (aA hT b1) l (by rw [af,e])
 refine ite2 (fun hc=>?_) (fun hc=>?_)
 ·have z:i + kk + t=0:=by have:(i:Int) + kk + t=0:=(by simpa using hc); omega
  walk_at "rd";exact q0 z _ c1 b1
 ·have z:0 < (i:Int) + kk + t:=by have:¬ (i:Int) + kk + t=0:=(by simpa using hc); omega
  clear q0 q;have e1:0<=m / 2 % ((i:Int) + kk + t):=Dq _ (by omega)
  have e2:m / 2 % ((i:Int) + kk + t) < (i:Int) + kk + t:=Dr _ z;walk_at "rd";refine ite2 (fun hp=>?_) (fun hp=>?_)
  ·walk_at "rd"
   refine ite2 (fun ht=>?_) (fun ht=>?_)
   ·have ht:0 < (t:Int):=by simpa using ht
    have mn:(if (t:Int) < 3 then (t:Int) else 3)=min 3 (t:Int):=by split <;> omega
    have mp:0 < min 3 (t:Int):=by omega
    have e3:0<=m / 2 % min 3 (t:Int):=Dq _ (by omega)
    have e4:m / 2 % min 3 (t:Int) < min 3 (t:Int):=Dr _ mp;walk_at "rd";rw [mn];exact fin (.t,((t:Int) - 1 - m / 2 % min 3 (t:Int)).toNat) _ _ (by show _=((((t:Int) - 1 - m / 2 % min 3 (t:Int)).toNat:Nat):Int); omega) (by show ((t:Int) - 1 - m / 2 % min 3 (t:Int)).toNat < t; omega) (by assumption)
   ·walk_at "rd"
    refine ite2 (fun a1=>?_) (fun a1=>?_)
    ·have a1:m / 2 % ((i:Int) + kk + t) < i:=by simpa using a1
     walk_at "rd";exact fin (.i,(m / 2 % ((i:Int) + kk + t)).toNat) _ _ (Dz e1).symm (by show (m / 2 % ((i:Int) + kk + t)).toNat < i; omega) (by assumption)
    ·have a1:¬ m / 2 % ((i:Int) + kk + t) < i:=by simpa using a1
     walk_at "rd";refine ite2 (fun a2=>?_) (fun a2=>?_)
     ·have a2:m / 2 % ((i:Int) + kk + t) < (i:Int) + kk:=by simpa using a2
      walk_at "rd";exact fin (.k,(m / 2 % ((i:Int) + kk + t) - i).toNat) _ _ (by show _=(((m / 2 % ((i:Int) + kk + t) - i).toNat:Nat):Int); omega) (by show (m / 2 % ((i:Int) + kk + t) - i).toNat < kk; omega) (by assumption)
     ·have a2:¬ m / 2 % ((i:Int) + kk + t) < (i:Int) + kk:=by simpa using a2
      walk_at "rd";exact fin (.t,(m / 2 % ((i:Int) + kk + t) - i - kk).toNat) _ _ (by show _=(((m / 2 % ((i:Int) + kk + t) - i - kk).toNat:Nat):Int); omega) (by show (m / 2 % ((i:Int) + kk + t) - i - kk).toNat < t; omega) (by assumption)
  ·walk_at "rd"
   refine ite2 (fun a1=>?_) (fun a1=>?_)
   ·have a1:m / 2 % ((i:Int) + kk + t) < i:=by simpa using a1
    walk_at "rd";exact fin (.i,(m / 2 % ((i:Int) + kk + t)).toNat) _ _ (Dz e1).symm (by show (m / 2 % ((i:Int) + kk + t)).toNat < i; omega) (by assumption)
   ·have a1:¬ m / 2 % ((i:Int) + kk + t) < i:=by simpa using a1
    walk_at "rd";refine ite2 (fun a2=>?_) (fun a2=>?_)
    ·have a2:m / 2 % ((i:Int) + kk + t) < (i:Int) + kk:=by simpa using a2
     walk_at "rd";exact fin (.k,(m / 2 % ((i:Int) + kk + t) - i).toNat) _ _ (by show _=(((m / 2 % ((i:Int) + kk + t) - i).toNat:Nat):Int); omega) (by show (m / 2 % ((i:Int) + kk + t) - i).toNat < kk; omega) (by assumption)
    ·have a2:¬ m / 2 % ((i:Int) + kk + t) < (i:Int) + kk:=by simpa using a2
     walk_at "rd";exact fin (.t,(m / 2 % ((i:Int) + kk + t) - i - kk).toNat) _ _ (by show _=(((m / 2 % ((i:Int) + kk + t) - i - kk).toNat:Nat):Int); omega) (by show (m / 2 % ((i:Int) + kk + t) - i - kk).toNat < t; omega) (by assumption)
theorem av48:AF (defScope (top 48)) ["_law_script", "_law_at", "_law_ins", "_law_keeps", "_law_many", "_law_outs", "_law_tables", "_law_k", "_law_m", "_law_leaves", "_law_holds", "_law_first", "_law_ends"]:=⟨∅⟩
theorem gl48:AG (defScope (top 48)) ["range", "_law_next", "len", "_law_drawn_place"]:=⟨∅⟩
def iE:Scope:={ kind:=PySem.ScopeKind.function,names:=[ (PySem.Str.ofString ".0",PySem.NameKind.local),(PySem.Str.ofString "_law_j",PySem.NameKind.local),(PySem.Str.ofString "_law_drawn_place",PySem.NameKind.globalImplicit),(PySem.Str.ofString "_law_at",PySem.NameKind.free),(PySem.Str.ofString "_law_ins",PySem.NameKind.free),(PySem.Str.ofString "_law_k",PySem.NameKind.free),(PySem.Str.ofString "_law_keeps",PySem.NameKind.free),(PySem.Str.ofString "_law_script",PySem.NameKind.free)],isGenerator:=false,isCoroutine:=false,more:=[]:PySem.Scope }
theorem rO:CompOk iE (defScope (top 48)) (["_law_j"]:List Str) (["_law_script", "_law_at", "_law_ins", "_law_keeps", "_law_many", "_law_outs", "_law_tables", "_law_k", "_law_m", "_law_leaves", "_law_holds", "_law_first", "_law_ends"]:List Str) [0,1,2,3,7] (["_law_j", "_law_script", "_law_at", "_law_ins", "_law_keeps", "_law_k"]:List Str):=compOk rfl ∅ ∅ ∅ ∅ rfl ∅
theorem rP:AK (relab iE (defScope (top 48))) ["_law_j"]:=⟨∅⟩
theorem AN:AG (relab iE (defScope (top 48))) ["_law_drawn_place"]:=⟨∅⟩
theorem fV:AV (relab iE (defScope (top 48))) ["_law_j", "_law_script", "_law_at", "_law_ins", "_law_keeps", "_law_k"]:=⟨∅⟩
def kY:Scope:={ kind:=PySem.ScopeKind.function,names:=[(PySem.Str.ofString ".0",PySem.NameKind.local),(PySem.Str.ofString "_law_leaf",PySem.NameKind.local)],isGenerator:=false,isCoroutine:=false,more:=[]:PySem.Scope }
theorem rQ:CompOk kY (defScope (top 48)) (["_law_leaf"]:List Str) (["_law_script", "_law_at", "_law_ins", "_law_keeps", "_law_many", "_law_outs", "_law_tables", "_law_k", "_law_m", "_law_leaves", "_law_holds", "_law_first", "_law_ends"]:List Str) [] (["_law_leaf"]:List Str):=compOk rfl ∅ ∅ ∅ ∅ rfl ∅
theorem rR:AK (relab kY (defScope (top 48))) ["_law_leaf"]:=⟨∅⟩
theorem rS:AV (relab kY (defScope (top 48))) ["_law_leaf"]:=⟨∅⟩
def iF:Scope:={ kind:=PySem.ScopeKind.function,names:=[ (PySem.Str.ofString ".0",PySem.NameKind.local),(PySem.Str.ofString "_law_k",PySem.NameKind.local),(PySem.Str.ofString "_law_drawn_place",PySem.NameKind.globalImplicit),(PySem.Str.ofString "_law_at",PySem.NameKind.free),(PySem.Str.ofString "_law_ins",PySem.NameKind.free),(PySem.Str.ofString "_law_keeps",PySem.NameKind.free),(PySem.Str.ofString "_law_many",PySem.NameKind.free),(PySem.Str.ofString "_law_script",PySem.NameKind.free)],isGenerator:=false,isCoroutine:=false,more:=[]:PySem.Scope }
theorem rT:CompOk iF (defScope (top 48)) (["_law_k"]:List Str) (["_law_script", "_law_at", "_law_ins", "_law_keeps", "_law_many", "_law_outs", "_law_tables", "_law_k", "_law_m", "_law_leaves", "_law_holds", "_law_first", "_law_ends"]:List Str) [0,1,2,3,4] (["_law_k", "_law_script", "_law_at", "_law_ins", "_law_keeps", "_law_many"]:List Str):=compOk rfl ∅ ∅ ∅ ∅ rfl ∅
theorem rV:AK (relab iF (defScope (top 48))) ["_law_k"]:=⟨∅⟩
theorem AO:AG (relab iF (defScope (top 48))) ["_law_drawn_place"]:=⟨∅⟩
theorem fW:AV (relab iF (defScope (top 48))) ["_law_k", "_law_script", "_law_at", "_law_ins", "_law_keeps", "_law_many"]:=⟨∅⟩
def kZ:Scope:={ kind:=PySem.ScopeKind.function,names:=[(PySem.Str.ofString ".0",PySem.NameKind.local),(PySem.Str.ofString "_law_place",PySem.NameKind.local)],isGenerator:=false,isCoroutine:=false,more:=[]:PySem.Scope }
theorem rW:CompOk kZ (defScope (top 48)) (["_law_place"]:List Str) (["_law_script", "_law_at", "_law_ins", "_law_keeps", "_law_many", "_law_outs", "_law_tables", "_law_k", "_law_m", "_law_leaves", "_law_holds", "_law_first", "_law_ends"]:List Str) [] (["_law_place"]:List Str):=compOk rfl ∅ ∅ ∅ ∅ rfl ∅
theorem rX:AK (relab kZ (defScope (top 48))) ["_law_place"]:=⟨∅⟩
theorem rY:AV (relab kZ (defScope (top 48))) ["_law_place"]:=⟨∅⟩
theorem draws {ins keeps:Nat}{u:Option V} (h4:n<=4) (hS:Scr K H a ns) (hb:H b=some (.lst [.int c])) (h0:0<=c) (h1:c < 2 ^ 55) (q:∀ os c4 ys H',OL K H H' a b ns ins keeps i os ys c4->os.length=n->c<=c4->c4<=c + 4->Q ys H') :
  Comp (Itr 0 n) (gName 0) tYes (tCall (spDp K) [] E0 (tCons (tVar 1) (tCons (tVar 2) (tCons (tVar 3) (tCons (tVar 4) (tCons (tVar 5) tNil)))))) Q [u,some (.ref a),some (.ref b),some (.int (ins:Int)),some (.int (keeps:Int)),some (.int (i:Int))] H:=by
 refine gj (fun j ys σ H''=>∃ (os:List (Option Plc)) (c4:Int),OL K H H'' a b ns ins keeps i os ys c4/\os.length=j/\CI c4 c j/\∃ u,σ=[u,some (.ref a),some (.ref b),some (.int (ins:Int)),some (.int (keeps:Int)),some (.int (i:Int))]) (by rw [BR]; omega) ⟨[],c,⟨⟨Ch.refl _ _,hS,hb⟩,.nil,by simp⟩,rfl,⟨by omega,by omega⟩,_,rfl⟩ ?_ ?_ ?_
 ·rintro j ys σ H'' hj ⟨os,c4,oL,lj,_⟩
  rw [<- BH oL.ex];omega
 ·rintro j ys σ H'' hj ⟨os,c4,oL,lj,cj,u,rfl⟩
  have cj1:=cj.lo;have cj2:=cj.hi;have hS2:=oL.d.hS;have hb2:=oL.d.hb;clear q hS hb;have p0:0<=c4:=by omega
  have p1:c4 < 2 ^ 58:=by omega
  have p2:CI (c4 + 1) c (j + 1:Nat):=⟨by omega,by omega⟩
  walk_at "rd";refine ⟨fun z H8 c8 b8=>?_,fun p x H8 c8 b8 lx hx=>?_⟩
  ·exact ⟨os++[none],c4 + 1,⟨oL.d.next c8 b8,bu (R:=OpAt H8) (x:=none) (y:=V.non) rfl (aF (fun _ _=>OpAt.tu (Tu.lst c8 oL.d.hb)) oL.ex),fun y hy=>oL.lo y (by simpa using hy)⟩,by simp [lj],p2,_,rfl⟩
  ·refine ⟨os++[some x],c4 + 1,⟨oL.d.next c8 b8,bu (R:=OpAt H8) (x:=some x) (y:=V.ref p) ⟨p,rfl,hx⟩ (aF (fun _ _=>OpAt.tu (Tu.lst c8 oL.d.hb)) oL.ex),fun y hy=>?_⟩,by simp [lj],p2,_,rfl⟩
   rcases BP.mp hy with z | z
   ·exact oL.lo y z
   ·cases B6.mp z; exact lx
 ·rintro ys σ H7 ⟨os,c4,oL,lj,cj,_⟩
  have cj2:=cj.hi;exact q os c4 ys H7 oL lj cj.lo (by omega)
theorem filt {os:List (Option Plc)}{ys:List V}{yl:Addr}{u:Option V} (g8:H yl=some (.lst ys)) (oo:Paired (OpAt H) os ys) (l4:os.length<=4) (q:∀ ps,WsAt H ((os.filterMap id).map plK) ps->Q (ps.map V.ref) H) :
  Comp (Itl K yl) (gName 0) (tTest (tOp (fun x y H Q=>y=V.non/\Q (V.bl !decide (x=V.non)) H) (tVar 0) (tC V.non))) (tVar 0) Q [u] H:=by
 have lo:=BH oo;refine bO ys (fun j zs σ H''=>H''=H/\(∃ ps,zs=ps.map V.ref/\WsAt H (((os.take j).filterMap id).map plK) ps)/\∃ u,σ=[u]) (by rw [BR]; omega) ⟨rfl,⟨[],rfl,.nil⟩,_,rfl⟩ ?_ ?_ ?_
 ·rintro j zs σ H'' hj ⟨rfl,⟨ps,rfl,ws⟩,_⟩
  refine ⟨?_,SqL.of g8⟩;have e:=BH ws;rw [BF] at e;rw [BF,<- e];exact B7 (Dt _ _) (by rw [B8]; exact Nat.min_le_left _ _)
 ·rintro j zs σ H'' z hz ⟨rfl,⟨ps,rfl,ws⟩,u,rfl⟩
  obtain ⟨o,eo,hz2⟩:=opget oo j z hz;have tk:(os.take (j + 1)).filterMap id=(os.take j).filterMap id++[o].filterMap id:=by rw [B0,eo,List.filterMap_append]; rfl
  rw [tk];cases o with
  | none =>
   obtain rfl:z=.non:=hz2;walk_at "rd";exact ⟨⟨ps,rfl,by simpa using ws⟩,_,rfl⟩
  | some x =>
   obtain ⟨p,rfl,hp⟩:=hz2;walk_at "rd";exact ⟨⟨ps++[p],by simp,WsAt.snoc hp ws⟩,_,rfl⟩
 ·rintro zs σ H9 ⟨rfl,⟨ps,rfl,ws⟩,_⟩
  rw [<- lo,B2] at ws;exact q ps ws
structure DT (K:PySem.W.Frag) (H H':Hp) (a b:Addr) (ns:List Int) (c:Int) (tl kl ol:Addr) (ins:Nat) (ts:List Tb) (ks:List Kp) (os:List Plc):Prop where
 d:∃ c',DQ K H H' a b ns c'/\c<=c'/\c'<=c + 300
 dr:DrAt [b] H' tl kl ol ts ks os
 ok:Okd ins ts ks os
 lt:ts.length<=9
 lk:ks.length<=4
 lo:os.length<=3
def spTl (K:PySem.W.Frag):Sp:=fun vs H Q _=>∃ (a b:Addr) (ns:List Int) (c:Int) (ins keeps many outs:Nat),vs=[.ref a,.ref b,.int (ins:Int),.int (keeps:Int),.int (many:Int),.int (outs:Int)]/\ins<=4/\keeps<=4/\many<=9/\outs<=3/\Scr K H a ns/\H b=some (.lst [.int c])/\0<=c/\c < 2 ^ 50 /\
 ∀ (R tl kl ol:Addr) (ts:List Tb) (ks:List Kp) (os:List Plc) (H':Hp),DT K H H' a b ns c tl kl ol ins ts ks os->H' R=some (.tup [.ref tl,.ref kl,.ref ol])->Q (.ref R) H'
theorem scTl:FnScope ["_law_script", "_law_at", "_law_ins", "_law_keeps", "_law_many", "_law_outs", "_law_tables", "_law_k", "_law_m", "_law_leaves", "_law_holds", "_law_first", "_law_ends"] ["_law_script", "_law_at", "_law_ins", "_law_keeps", "_law_many", "_law_outs"] (defScope (top 48)):=⟨rfl,rfl,rfl,∅,rfl,∅,∅⟩
theorem AQ (F:Fun K "_law_tables_lists" "_law_tables_lists" (top 48) f fd) (D_law_next:DefOk P w K mg base CX0 k "_law_next" ["_law_script", "_law_at"] (spNext K)) (D_law_drawn_place:DefOk P w K mg base CX0 k "_law_drawn_place" ["_law_script", "_law_at", "_law_ins", "_law_keeps", "_law_tables"] (spDp K)) (z_range:mg "range" = none) (z_len:mg "len" = none):FnOk P w K mg base CX0 (k + 1) f fd ["_law_script", "_law_at", "_law_ins", "_law_keeps", "_law_many", "_law_outs"] (spTl K):=by
 have nd:=scTl.nd;refine F.ok scTl (fun vs H Q E h=>by obtain ⟨a,b,ns,c,ins,keeps,many,outs,rfl,_⟩:=h; rfl) (fun cdv A outer s H vs Q E hr h=>?_)
 obtain ⟨a,b,ns,c,ins,keeps,many,outs,rfl,i4,k4,m9,o3,hS,hb,h0,h1,q⟩:=h;refine ⟨_,(Pr.h (ah (ay (i:=6) nd rfl (av48.l 6 rfl) (bZ ab)) (ah (bK Ci rfl (cV (gl48.g 0 rfl) z_range (aa (qv av48 4 rfl) ab ae)) (aj (i:=7) nd rfl (av48.l 7 rfl)) (ah (ay (i:=8) nd rfl (av48.l 8 rfl) (ao D_law_next hr (gl48.g 1 rfl) pass0 (aa (qv av48 0 rfl) (aa (qv av48 1 rfl) ab ae) ae) eG)) (ah (eA (i:=9) nd rfl (av48.l 9 rfl) rfl rO (cV (gl48.g 0 rfl) z_range (aa (av bG (qv av48 8 rfl) ag) ab bT)) (fun _ _ _ _ _=>(aj (i:=0) rO.nd rfl (Or.inl (rP.k 0 rfl)) (Or.inr (rP.k 0 rfl)))) (fun _ _ _ _ _=>aU) (fun _ _ _ _ _=>(ao D_law_drawn_place hr (AN.g 0 rfl) pass0 (aa (qw fV 1 rfl) (aa (qw fV 2 rfl) (aa (qw fV 3 rfl) (aa (qw fV 4 rfl) (aa (qw fV 5 rfl) ab ae) ae) ae) ae) ae) kX)) rfl) (ah (eA (i:=9) nd rfl (av48.l 9 rfl) rfl rQ (bj (qv av48 9 rfl)) (fun _ _ _ _ _=>(aj (i:=0) rQ.nd rfl (Or.inl (rR.k 0 rfl)) (Or.inr (rR.k 0 rfl)))) (fun _ _ _ _ _=>(dG (ax iO (qw rS 0 rfl) dN (nomark _)))) (fun _ _ _ _ _=>(qw rS 0 rfl)) rfl) (ai (bp (bM Cr CG CH cy (qv av48 6 rfl) (aa (aN (aa (qv av48 9 rfl) (aa (av bG (ao D_law_next hr (gl48.g 1 rfl) pass0 (aa (qv av48 0 rfl) (aa (qv av48 1 rfl) ab ae) ae) eG) (ak bR (bZ (aa ag (aa ag (aa ag (aa ag (aa ag ab aV) aV) aV) aV) aV)) (aq aJ (gl48.g 2 rfl) z_len BY (aa (qv av48 9 rfl) ab ae) aK aL) (fun _ _=>rfl))) ab bT) ae)) ab dF)))))))) (ah (ay (i:=10) nd rfl (av48.l 10 rfl) (bZ ab)) (ah (bK Ci rfl (cV (gl48.g 0 rfl) z_range (aa (qv av48 3 rfl) ab ae)) (aj (i:=7) nd rfl (av48.l 7 rfl)) (ah (ay (i:=11) nd rfl (av48.l 11 rfl) (av bG (ao D_law_next hr (gl48.g 1 rfl) pass0 (aa (qv av48 0 rfl) (aa (qv av48 1 rfl) ab ae) ae) eG) ag)) (ai (bp (bM Cr CG CH cy (qv av48 10 rfl) (aa (aN (aa (qv av48 11 rfl) (aa (ao D_law_drawn_place hr (gl48.g 3 rfl) pass0 (aa (qv av48 0 rfl) (aa (qv av48 1 rfl) (aa (qv av48 2 rfl) (aa (qv av48 3 rfl) (aa (qv av48 4 rfl) ab ae) ae) ae) ae) ae) kX) ab bf) ae)) ab dF)))))) (ah (eA (i:=12) nd rfl (av48.l 12 rfl) rfl rT (cV (gl48.g 0 rfl) z_range (aa (qv av48 5 rfl) ab ae)) (fun _ _ _ _ _=>(aj (i:=0) rT.nd rfl (Or.inl (rV.k 0 rfl)) (Or.inr (rV.k 0 rfl)))) (fun _ _ _ _ _=>aU) (fun _ _ _ _ _=>(ao D_law_drawn_place hr (AO.g 0 rfl) pass0 (aa (qw fW 1 rfl) (aa (qw fW 2 rfl) (aa (qw fW 3 rfl) (aa (qw fW 4 rfl) (aa (qw fW 5 rfl) ab ae) ae) ae) ae) ae) kX)) rfl) (ai (au (aN (aa (qv av48 6 rfl) (aa (qv av48 10 rfl) (aa (aR rfl rW (bj (qv av48 12 rfl)) (fun _ _ _ _ _=>(aj (i:=0) rW.nd rfl (Or.inl (rX.k 0 rfl)) (Or.inr (rX.k 0 rfl)))) (fun _ _ _ _ _=>(dG (ax iO (qw rY 0 rfl) dN (nomark _)))) (fun _ _ _ _ _=>(qw rY 0 rfl))) ab bc) ae) ae)))))))))),?_⟩
 (try dsimp only [cxOf])
 walk_at "rd";rename_i tl htl;have d0:DQ K H H a b ns c:=⟨Ch.refl _ _,hS,hb⟩;have ftl:H tl=none:=htl;have nbt:b≠tl:=d0.nb htl;have e0:TLs K H (upd H tl (.lst [])) a b ns tl ins keeps [] c:=⟨d0.new (Ch.new htl _),⟨[],af,.nil⟩,fun i t h=>by simp at h⟩
 clear d0;refine eR (fun i σ H'=>∃ ts c' u7 u8 u9 u10 u11 u12,σ=[some (.ref a),some (.ref b),some (.int (ins:Int)),some (.int (keeps:Int)),some (.int (many:Int)),some (.int (outs:Int)),some (.ref tl),u7,u8,u9,u10,u11,u12]/\TLs K H H' a b ns tl ins keeps ts c'/\ts.length=i/\CI c' c (10 * i)) ⟨[],c,_,_,_,_,_,_,rfl,e0,rfl,by omega,by omega⟩ ?_ ?_
 ·clear e0
  rintro i σ H' hi ⟨ts,c',u7,u8,u9,u10,u11,u12,rfl,tL,hl,ci⟩;have hi:i < many:=by simpa using hi
  rw [Int.zero_add];have ci1:=ci.lo;have ci2:=ci.hi;have hS':=tL.d.hS;have hb':=tL.d.hb;walk_at "rd";rename_i m H5 m0 m1 c5 b5;have d5:DQ K H' H5 a b ns (c' + 1):=⟨c5,hS'.ch hb' c5,b5⟩;have m4:(m % 5).toNat<=4:=by omega
  refine draws m4 d5.hS d5.hb (by omega) (by omega) fun os c4 ys H7 oL lj cj1 cj2=>?_
  have lj:os.length<=4:=by omega
  have lo:=BH oL.ex;intro yl hyl;have g8:(upd H7 yl (.lst ys)) yl=some (.lst ys):=af;have d8:DQ K H' (upd H7 yl (.lst ys)) a b ns c4:=(d5.trans oL.d).new (Ch.new hyl _);have oo8:=aF (fun _ _=>OpAt.tu (Tu.new (HO.lst ys) hyl)) oL.ex
  have olo:=oL.lo;show tSeq _ _ _ _ (upd H7 yl (.lst ys));generalize upd H7 yl (.lst ys)=H8 at g8 d8 oo8 ⊢;clear hyl oL d5 c5 b5;walk_at "rd";refine filt g8 oo8 lj fun ps ws=>?_
  intro lp hlp;have llo:∀ x∈os.filterMap id,x.2 < lim6 ins keeps i x.1:=fun x hx=>olo x (by simpa using hx)
  have ll4:(os.filterMap id).length<=4:=B7 (Dt _ _) lj;generalize os.filterMap id=ls at ws llo ll4;have d9:DQ K H' (upd H8 lp (.lst (ps.map V.ref))) a b ns c4:=d8.new (Ch.new hlp _);have g9:(upd H8 lp (.lst (ps.map V.ref))) lp=some (.lst (ps.map V.ref)):=af;have ws9:=ws.tu (Tu.new (HO.lst (ps.map V.ref)) hlp);have flp:H' lp=none:=d8.free hlp;have nbl:b≠lp:=d8.nb hlp;show tSeq _ _ _ _ (upd H8 lp (.lst (ps.map V.ref)));generalize upd H8 lp (.lst (ps.map V.ref))=HA at d9 g9 ws9 ⊢;clear hlp d8 g8 oo8 olo lo lj ws;have lw:=BH ws9;rw [BF] at lw;have ra:atI [V.int 2,V.int 4,V.int 16,V.int 256,V.int 65536] ((ps.map V.ref).length:Int)=some (.int (room ls.length)):=by rw [BF,<- lw]; exact AE ll4
  obtain ⟨rp,rp2⟩:=AH ll4;obtain ⟨tps,gt,tt⟩:=tL.tb;have lt:=BH tt;have gt2:HA tl=some (.lst (tps.map V.ref)):=d9.ch.get gt (by simpa using nbt.symm)
  have lpt:lp≠tl:=(ar gt flp).symm;have t12:(tps.map V.ref).length<=12:=by rw [BF]; omega
  have hS9:=d9.hS;have hb9:=d9.hb;walk_at "rd";rename_i n8 HB n80 n81 c8 b8 p9 hp9 T hT;have dB:DQ K H HB a b ns (c4 + 1):=(tL.d.trans d9).next c8 b8;have k9:Kl [b,tl] H' HB:=(d9.kl hb' (by simp)).trans (Kl.one c8 hb9 (by simp))
  have cc:Ch [] HB (upd (upd HB p9 (.lst [V.int 2,V.int 4,V.int 16,V.int 256,V.int 65536])) T (.tup [.ref lp,.int (n8 % room ls.length)])):=(Ch.new hp9 _).trans (Ch.new hT _);have gT:(upd (upd HB p9 (.lst [V.int 2,V.int 4,V.int 16,V.int 256,V.int 65536])) T (.tup [.ref lp,.int (n8 % room ls.length)])) tl=some (.lst (tps.map V.ref)):=cc.get (c8.get gt2 (by simpa using nbt.symm)) (by simp)
  have dT:=dB.new cc;have gT2:(upd (upd HB p9 (.lst [V.int 2,V.int 4,V.int 16,V.int 256,V.int 65536])) T (.tup [.ref lp,.int (n8 % room ls.length)])) T=some (.tup [.ref lp,.int (n8 % room ls.length)]):=af;have kT:Kl [b,tl] H' (upd (upd HB p9 (.lst [V.int 2,V.int 4,V.int 16,V.int 256,V.int 65536])) T (.tup [.ref lp,.int (n8 % room ls.length)])):=k9.trans (Kl.new cc);have nTl:T≠tl:=aI gT2 gT (by intro z; cases z)
  have nex:lp ∉ [b,tl]:=by simp [nbl.symm,lpt]
  have glp:(upd (upd HB p9 (.lst [V.int 2,V.int 4,V.int 16,V.int 256,V.int 65536])) T (.tup [.ref lp,.int (n8 % room ls.length)])) lp=some (.lst (ps.map V.ref)):=cc.get (c8.get g9 (by simpa using nbl.symm)) (by simp)
  have wsT:=(ws9.tu (Tu.lst c8 hb9)).tu (Tu.same cc);generalize upd (upd HB p9 (.lst [V.int 2,V.int 4,V.int 16,V.int 256,V.int 65536])) T (.tup [.ref lp,.int (n8 % room ls.length)])=HC at gT dT gT2 kT glp wsT ⊢;have dJ:=dT.own (zs:=tps.map V.ref++[.ref T]) ftl gT nbt;have kJ:=Kl.one (ex:=[b,tl]) (Ch.put (o:=.lst (tps.map V.ref++[.ref T]))) gT (by simp)
  have okn:Tb.ok ins keeps i ⟨ls,n8 % room ls.length⟩:=⟨ll4,llo,Dq _ (by omega),Dr _ rp⟩
  refine ⟨⟨dJ,⟨tps++[T],by rw [af,BL]; rfl,bu (x:=⟨ls,n8 % room ls.length⟩) ⟨lp,ps,nex,kJ.t _ _ gT2,kJ.l _ _ nex glp,wsT.tu kJ.t⟩ (aF (fun _ _ z=>TbL.kl kJ (TbL.kl kT z)) tt)⟩,fun j t h=>?_⟩,by simp [hl],by omega,by omega⟩
  by_cases hj:j < ts.length
  ·rw [CM hj] at h
   exact tL.ok j t h
  ·have h2:=(BX.mp h).1
   rw [BU,Cn] at h2;have en:j=ts.length:=by omega
   subst en;rw [CV (BI _),Nat.sub_self] at h;cases h;rw [hl];exact okn
 ·rintro σ H' ⟨ts,c',u7,u8,u9,u10,u11,u12,rfl,tL,hl,ci⟩
  have hl:ts.length=many:=by simpa using hl
  have ci1:=ci.lo;have ci2:c'<=c + 90:=by have:=ci.hi; omega
  walk_at "rd";rename_i kl hkl;have d1:=tL.d;have hb':=d1.hb;have fkl:H kl=none:=d1.free hkl;have nbk:b≠kl:=d1.nb hkl;have e0:KI K H' (upd H' kl (.lst [])) a b ns kl ins keeps many [] c':=⟨(⟨Ch.refl _ _,d1.hS,d1.hb⟩:DQ K H' H' a b ns c').new (Ch.new hkl _),⟨[],af,.nil⟩,by simp⟩
  refine eR (fun i σ H''=>∃ ks c'' u7 u8 u9 u11 u12,σ=[some (.ref a),some (.ref b),some (.int (ins:Int)),some (.int (keeps:Int)),some (.int (many:Int)),some (.int (outs:Int)),some (.ref tl),u7,u8,u9,some (.ref kl),u11,u12]/\KI K H' H'' a b ns kl ins keeps many ks c''/\ks.length=i/\CI c'' c' (2 * i)) ⟨[],c',_,_,_,_,_,rfl,e0,rfl,by omega,by omega⟩ ?_ ?_
  ·clear e0
   rintro i σ H'' hi ⟨ks,c'',u7,u8,u9,u11,u12,rfl,kI,lk,cj⟩;have hi:i < keeps:=by simpa using hi
   have cj1:=cj.lo;have cj2:=cj.hi;have hS2:=kI.d.hS;have hb2:=kI.d.hb;obtain ⟨kqs,gk,kk⟩:=kI.ex;have lkq:=BH kk;have k12:(kqs.map V.ref).length<=12:=by rw [BF]; omega
   walk_at "rd";rename_i n8 H8 n80 n81 c8 b8;have gk8:=c8.get gk (by simpa using nbk.symm)
   have d8:=kI.d.next c8 b8;have hS8:=d8.hS;walk_at "rd";rename_i p x H9 c9 b9 lx hx T hT;have gk9:=c9.get gk8 (by simpa using nbk.symm)
   have d9:=d8.next c9 b9;have kk9:=aF (fun _ _ z=>KpAt.tu ((Tu.lst c8 hb2).trans (Tu.lst c9 b8)) z) kk
   have gT:(upd H9 T (.tup [.int (n8 % 2),.ref p])) kl=some (.lst (kqs.map V.ref)):=aA hT gk9;have tT:(upd H9 T (.tup [.int (n8 % 2),.ref p])) T=some (.tup [.int (n8 % 2),.ref p]):=af;have dT:=(d9.new (Ch.new hT (.tup [.int (n8 % 2),.ref p]))).own (zs:=kqs.map V.ref++[.ref T]) hkl gT nbk;have tu:=(Tu.new (HO.tup [.int (n8 % 2),.ref p]) hT).trans (Tu.lst (Ch.put (o:=.lst (kqs.map V.ref++[.ref T]))) gT);have tu2:=Tu.lst (Ch.put (o:=.lst (kqs.map V.ref++[.ref T]))) gT;refine ⟨⟨dT,⟨kqs++[T],by rw [af,BL]; rfl,bu (x:=⟨decide (n8 % 2=1),x⟩) ⟨p,by rw [<- p6]; exact tu2 _ _ tT,tu _ _ hx⟩ (aF (fun _ _ z=>KpAt.tu tu z) kk9)⟩,fun y hy=>?_⟩,by simp [lk],by omega,by omega⟩
   rcases BP.mp hy with z | z
   ·exact kI.lo y z
   ·rw [B6.mp z]; exact lx
  ·clear e0
   rintro σ H'' ⟨ks,c'',u7,u8,u9,u11,u12,rfl,kI,lk,cj⟩;have lk:ks.length=keeps:=by simpa using lk
   have cj1:=cj.lo;have cj2:c''<=c' + 8:=by have:=cj.hi; omega
   have hS2:=kI.d.hS;have hb2:=kI.d.hb;walk_at "rd";refine draws (by omega) hS2 hb2 (by omega) (by omega) fun os c4 ys H7 oL lj cj4 cj5=>?_
   have lj:os.length<=3:=by omega
   have lo:=BH oL.ex;intro yl hyl;have g8:(upd H7 yl (.lst ys)) yl=some (.lst ys):=af;have d8:DQ K H'' (upd H7 yl (.lst ys)) a b ns c4:=oL.d.new (Ch.new hyl _);have oo8:=aF (fun _ _=>OpAt.tu (Tu.new (HO.lst ys) hyl)) oL.ex
   have olo:=oL.lo;show tSeq _ _ _ _ (upd H7 yl (.lst ys));generalize upd H7 yl (.lst ys)=H8 at g8 d8 oo8 ⊢;clear hyl oL;walk_at "rd";refine filt g8 oo8 (by omega) fun ps ws=>?_
   intro ol hol;have llo:∀ x∈os.filterMap id,x.2 < lim6 ins keeps many x.1:=fun x hx=>olo x (by simpa using hx)
   have ll3:(os.filterMap id).length<=3:=B7 (Dt _ _) lj;generalize os.filterMap id=ls at ws llo ll3;have nbo:b≠ol:=d8.nb hol;walk_at "rd";rename_i R hR;have cR:Ch [] H8 (upd (upd H8 ol (.lst (ps.map V.ref))) R (.tup [.ref tl,.ref kl,.ref ol])):=(Ch.new hol _).trans (Ch.new hR _);have gol:(upd (upd H8 ol (.lst (ps.map V.ref))) R (.tup [.ref tl,.ref kl,.ref ol])) ol=some (.lst (ps.map V.ref)):=aA hR af;have gR:(upd (upd H8 ol (.lst (ps.map V.ref))) R (.tup [.ref tl,.ref kl,.ref ol])) R=some (.tup [.ref tl,.ref kl,.ref ol]):=af;have dR:=d8.new cR;have wsR:=ws.tu (Tu.same cR);generalize upd (upd H8 ol (.lst (ps.map V.ref))) R (.tup [.ref tl,.ref kl,.ref ol])=HR at gol gR dR wsR cR ⊢;obtain ⟨kqs,gk,kk⟩:=kI.ex;obtain ⟨tps,gt,tt⟩:=tL.tb;have dA:=kI.d.trans dR;have kA:=dA.kl (ex:=[b,tl]) hb' (by simp)
   refine q R tl kl ol ts ks ls HR ⟨⟨c4,d1.trans dA,by omega,by omega⟩,⟨⟨by simpa using nbt.symm,tps,dA.ch.get gt (by simpa using nbt.symm),aF (fun _ _ z=>(TbL.kl kA z).weak) tt⟩,⟨by simpa using nbk.symm,kqs,dR.ch.get gk (by simpa using nbk.symm),aF (fun _ _ z=>KpAt.tu (Tu.lst dR.ch hb2) z) kk⟩,⟨by simpa using nbo.symm,ps,gol,wsR⟩⟩,⟨fun i t e=>by rw [lk]; exact tL.ok i t e,fun x hx=>by rw [lk,hl]; exact kI.lo x hx,fun x hx=>by rw [lk,hl]; exact llo x hx,by omega,by omega,by omega,by omega⟩,by omega,by omega,ll3⟩ gR
end
end

section
theorem lg (k:Wr):ScaL (k.map kV):=⟨fun x hx=>by
 obtain ⟨y,_,rfl⟩:=BQ.mp hx;exact rD y⟩
theorem rZ (w:WsAt H (pp.map plK) qs):TL H ((pp.map plK).map fun k=>k.map kV) (qs.map V.ref):=by
 have lq:=BH w;rw [BF] at lq;refine ⟨by simp [lq],fun i zs e=>?_⟩
 rw [BN] at e;obtain ⟨k0,e0,rfl⟩:=B5.mp e;have hi:=(BX.mp e0).1;have hq:i < qs.length:=by rw [BF] at hi; omega
 have h:=bN w i hi hq;rw [(BX.mp e0).2] at h;exact ⟨lg k0,qs[i],by rw [BN,BJ hq]; rfl,h⟩
theorem sd {a b:Plc} (e:(plK a).map kV=(plK b).map kV):a=b:=by
 refine kF ?_;obtain ⟨x,n⟩:=a;obtain ⟨y,m⟩:=b;unfold plK at *;simp only [B4,List.map_nil,kV,List.cons.injEq,V.str.injEq,V.int.injEq,and_true] at e;obtain ⟨e1,e2⟩:=e;show [Sum.inr x.s,Sum.inl (n:Int)]=[Sum.inr y.s,Sum.inl (m:Int)];rw [e1,e2]
theorem se {pp:List Plc}{p:Plc}:(((pp.map plK).map fun k=>k.map kV).any fun zs=>decide (zs=(plK p).map kV))=decide (p∈pp):=by
 by_cases h:p∈pp
 ·rw [Co h]
  exact List.any_eq_true.mpr ⟨_,BQ.mpr ⟨_,BQ.mpr ⟨_,h,rfl⟩,rfl⟩,Co rfl⟩
 ·rw [Cv h]
  refine List.any_eq_false.mpr fun zs hz=>?_
  obtain ⟨k,hk,rfl⟩:=BQ.mp hz;obtain ⟨q,hq,rfl⟩:=BQ.mp hk;rw [Df];exact fun e=>h (sd e ▸ hq)
theorem sf (h:p∈pp):((pp.map plK).map fun k=>k.map kV)[pp.idxOf p]?=some ((plK p).map kV)/\∀ i:Nat,i < pp.idxOf p->((pp.map plK).map fun k=>k.map kV)[i]?≠some ((plK p).map kV):=by
 refine ⟨?_,fun i hi e=>?_⟩
 ·rw [BN,BN,BJ (De h),List.getElem_idxOf]; rfl
 ·rw [BN,BN] at e
  obtain ⟨k,hk,e⟩:=B5.mp e;obtain ⟨q,hq,rfl⟩:=B5.mp hk;have:=sd e;subst this;obtain ⟨hl,hq⟩:=BX.mp hq;have z:pp.idxOf q=List.findIdx (· == q) pp:=rfl;rw [z] at hi;have:=List.not_of_lt_findIdx hi;rw [hq] at this;simp at this
section
variable {P:Program}{w:World}{K:PySem.W.Frag}{mg:Str->Option Value}{base:Heap}{f:Addr}{fd:FuncData}{k:Nat}
theorem av50:AF (defScope (top 50)) ["_law_paper", "_law_place"]:=⟨∅⟩
def spBy:Sp:=fun vs H Q _=>∃ (a p:Addr) (pps:List Addr) (pp:List Plc) (x:Plc),vs=[.ref a,.ref p]/\H a=some (.lst (pps.map V.ref))/\WsAt H (pp.map plK) pps/\H p=some (.tup [.str x.1.s,.int (x.2:Int)])/\Kn pp x/\pp.length<=300/\∀ r H',Ch [] H H'->H' r=some (.tup ((srcK (srcOf pp x)).map kV))->Q (.ref r) H'
theorem scBy:FnScope ["_law_paper", "_law_place"] ["_law_paper", "_law_place"] (defScope (top 50)):=⟨rfl,rfl,rfl,∅,rfl,∅,∅⟩
theorem AR (F:Fun K "_law_by" "_law_by" (top 50) f fd):FnOk P w K mg base CX0 (k + 1) f fd ["_law_paper", "_law_place"] spBy:=by
 have nd:=scBy.nd;refine F.ok scBy (fun vs H Q E h=>by obtain ⟨a,p,pps,pp,x,rfl,_⟩:=h; rfl) (fun cdv A outer s H vs Q E hr h=>?_)
 obtain ⟨a,p,pps,pp,⟨wd,n⟩,rfl,ha,wp,hp,kn,l3,q⟩:=h;refine ⟨_,(Pr.h (ah (aC (ax br (ak az (qv av50 1 rfl) ag (fun _ _=>rfl)) aM (nomark _)) (ai (au (qv av50 1 rfl))) aE) (ah (aC (ax (jq hr.units) (qv av50 1 rfl) (qv av50 0 rfl) rfl) (ai (au (aN (aa aM (aa (bM Cr PySem.F.slot_list_index PySem.F.type_list_index (yR hr.units) (qv av50 0 rfl) (aa (qv av50 1 rfl) ab ae)) ab bf) aV)))) aE) (ai (au dN))))),?_⟩
 (try dsimp only [cxOf])
 have tl:=rZ wp;have sc:=lg (plK (wd,n));have an:=se (pp:=pp) (p:=(wd,n));cases wd with
 | i =>
  walk_at "rd";exact q _ _ (Ch.refl _ _) hp
 | k =>
  have m:=kn.resolve_left (by intro z; cases z)
  rw [Co m] at an;obtain ⟨j1,j2⟩:=sf m;have z3:((pp.map plK).map fun k=>k.map kV).length < 1000:=by rw [BF,BF]; omega
  have hp:H p=some (.tup ((plK (Wd.k,n)).map kV)):=hp;walk_at "rd";rw [an];walk_at "rd";rename_i T hT;exact q T _ (Ch.new hT _) af
 | t =>
  have m:=kn.resolve_left (by intro z; cases z)
  rw [Co m] at an;obtain ⟨j1,j2⟩:=sf m;have z3:((pp.map plK).map fun k=>k.map kV).length < 1000:=by rw [BF,BF]; omega
  have hp:H p=some (.tup ((plK (Wd.t,n)).map kV)):=hp;walk_at "rd";rw [an];walk_at "rd";rename_i T hT;exact q T _ (Ch.new hT _) af
end
end

section
structure Sh where
 ls:List Plc
 bits:Int
 kept:Int
 first:Int
def ShAt (ex:List Addr) (H:Hp) (s:Sh) (p:Addr):Prop:=∃ (lp:Addr) (ps:List Addr),lp ∉ ex/\H p=some (.tup [.ref lp,.int s.bits,.int s.kept,.int s.first])/\H lp=some (.lst (ps.map V.ref))/\WsAt H (s.ls.map plK) ps
theorem ShAt.kl{H:Hp} (k:Kl ex H H') {t:Sh}{p:Addr} (s:ShAt ex H t p):ShAt ex H' t p:=let ⟨lp,ps,n,a,b,w⟩:=s; ⟨lp,ps,n,k.t _ _ a,k.l _ _ n b,WsAt.tu k.t w⟩
theorem ShAt.more (f:H td=none) {t:Sh}{p:Addr} (s:ShAt [sl] H t p):ShAt [sl,td] H t p:=let ⟨lp,ps,n,a,b,w⟩:=s; ⟨lp,ps,by simp only [BV,Cp,Cq,not_or] at n ⊢; exact ⟨n,ar b f⟩,a,b,w⟩
structure SL (H0 H:Hp) (ex:List Addr) (sl:Addr) (ss:List Sh):Prop where
 ch:Ch [] H0 H
 f:H0 sl=none
 m:sl∈ex
 ex:∃ sps,H sl=some (.lst (sps.map V.ref))/\Paired (ShAt ex H) ss sps
theorem SL.new {H:Hp} (s:SL H0 H ex sl ss) (c:Ch [] H H'):SL H0 H' ex sl ss:=⟨s.ch.trans c,s.f,s.m,let ⟨ps,a,b⟩:=s.ex; ⟨ps,c.get a (by simp),aF (fun _ _=>ShAt.kl (Kl.new c)) b⟩⟩
theorem SL.add{lp:Addr}{s1:Sh} (s:SL H0 H ex sl ss) (hb:H sl=some (.lst (qs.map V.ref))) (hT:H T=none) (n:lp ∉ ex) (hl:H lp=some (.lst (ps.map V.ref))) (ws:WsAt H (s1.ls.map plK) ps) :
  SL H0 (upd (upd H T (.tup [.ref lp,.int s1.bits,.int s1.kept,.int s1.first])) sl (.lst (qs.map V.ref++[V.ref T]))) ex sl (ss++[s1]):=by
 obtain ⟨sps,a,pr⟩:=s.ex;rw [hb] at a;have e:qs.map V.ref=sps.map V.ref:=by injection a with a; injection a
 have cT:Ch [] H (upd H T (.tup [.ref lp,.int s1.bits,.int s1.kept,.int s1.first])):=Ch.new hT _
 have kk:Kl ex H (upd (upd H T (.tup [.ref lp,.int s1.bits,.int s1.kept,.int s1.first])) sl (.lst (qs.map V.ref++[V.ref T]))):=(Kl.new cT).trans (Kl.one Ch.put (cT.get hb (by simp)) s.m)
 have nT:T≠sl:=(ar hb hT).symm;exact ⟨Ch.own s.f (s.ch.trans cT),s.f,s.m,sps++[T],by rw [af,e,BL]; rfl,bu ⟨lp,ps,n,aB nT af,kk.l _ _ n hl,WsAt.tu kk.t ws⟩ (aF (fun _ _=>ShAt.kl kk) pr)⟩
theorem SL.put{xs:List V} (s:SL H0 H ex sl ss) (f:H0 td=none) (h:H td=some (.lst xs)) (m:td∈ex) (n:td≠sl):SL H0 (upd H td (.lst zs)) ex sl ss:=⟨Ch.own f s.ch,s.f,s.m,let ⟨ps,a,b⟩:=s.ex; ⟨ps,aB n.symm a,aF (fun _ _=>ShAt.kl (Kl.one Ch.put h m)) b⟩⟩
theorem SL.more (s:SL H0 H [sl] sl ss) (f:H td=none):SL H0 H [sl,td] sl ss:=⟨s.ch,s.f,by simp,let ⟨ps,a,b⟩:=s.ex; ⟨ps,a,aF (fun _ _=>ShAt.more f) b⟩⟩
def shK (ts:List Tb) (k:Kp):Sh:=⟨(ktab ts k.pl).ls,(ktab ts k.pl).bits,1,bi k.f⟩
def shT (ts:List Tb) (n:Nat):Sh:=⟨(ts.getD n ⟨[],0⟩).ls,(ts.getD n ⟨[],0⟩).bits,0,0⟩
def shB (pp:List Plc) (s:Sh):Bk:=⟨s.ls.map (srcOf pp),s.bits,s.kept,s.first⟩
theorem AS (ts:List Tb) (ks:List Kp) (os:List Plc):(ks.map (shK ts)++(wtd ts ks os).map (shT ts)).map (shB (ppr ts ks os))=bls ts ks os:=by
 unfold bls;have e:(ks.map (shK ts)).map (shB (ppr ts ks os))=((List.range ks.length).map fun n=>(Wd.k,n)).map (blk ts ks (ppr ts ks os)):=by
  refine List.ext_getElem? fun i=>?_
  simp only [BN]
  by_cases h:i < ks.length
  ·rw [List.getElem?_range h,BJ h]
   show some _=some _;rw [eJ (BJ h)];rfl
  ·rw [Dp (by omega),Dp (by rw [Cy]; omega)]; rfl
 rw [BL,e]
 conv=>rhs; arg 2; unfold ppr
 rw [BL]
 congr 1
 rw [CA,CA];rfl
theorem AU (h:l.Pairwise (· < ·)) (k:Nat):l.filter (fun n=>decide (k<=n))=if k∈l then k :: l.filter (fun n=>decide (k + 1<=n)) else l.filter (fun n=>decide (k + 1<=n)):=by
 refine qQ (h.filter _) ?_ fun n=>?_
 ·split
  ·refine List.pairwise_cons.mpr ⟨fun m hm=>?_,h.filter _⟩
   have:=(Cb.mp hm).2;simp at this;omega
  ·exact h.filter _
 ·split
  ·rename_i hk
   rw [BV,Cb,Cb,Df,Df]
   constructor
   ·rintro ⟨a,b⟩
    by_cases e:n=k
    ·exact .inl e
    ·exact .inr ⟨a,by omega⟩
   ·rintro (rfl | ⟨a,b⟩)
    ·exact ⟨hk,BI _⟩
    ·exact ⟨a,by omega⟩
  ·rename_i hk
   rw [Cb,Cb,Df,Df]
   constructor
   ·rintro ⟨a,b⟩
    refine ⟨a,?_⟩
    by_cases e:n=k
    ·exact absurd (e ▸ a) hk
    ·omega
   ·rintro ⟨a,b⟩
    exact ⟨a,by omega⟩
structure LW2 (ts:List Tb) (ks:List Kp) (os:List Plc) (wl:List Plc) (k:Nat):Prop where
 a:∀ n,(Wd.t,n)∈wl->Wn ts ks os n
 b:∀ n∈st0 ts ks os,(Wd.t,n)∈wl
 c:∀ m,k<=m->Wn ts ks os m->∀ n∈tlv ts m,(Wd.t,n)∈wl
theorem LW2.iff {ins:Nat} (ok:Okd ins ts ks os) (q:LW2 ts ks os wl (k + 1)):(Wd.t,k)∈wl↔k∈wtd ts ks os:=by
 rw [cz ok];refine ⟨q.a k,fun h=>?_⟩
 cases h with
 | b z=>exact q.b _ z
 | s h z=>exact q.c _ (by have:=qP ok z; omega) h _ z
theorem LW2.old {ins:Nat} (ok:Okd ins ts ks os) (q:LW2 ts ks os wl (k + 1)) (h:k ∉ wtd ts ks os):LW2 ts ks os wl k:=⟨q.a,q.b,fun m hm w n z=>by
 by_cases e:m=k
 ·subst e; exact absurd ((cz ok).mpr w) h
 ·exact q.c m (by omega) w n z⟩
theorem LW2.more {ins:Nat} (ok:Okd ins ts ks os) (q:LW2 ts ks os wl (k + 1)) (h:k∈wtd ts ks os) (e:ts[k]?=some t):LW2 ts ks os (wl++t.ls) k:=by
 have w:=(cz ok).mp h;refine ⟨fun n z=>?_,fun n z=>BP.mpr (.inl (q.b n z)),fun m hm wm n z=>?_⟩
 ·rcases BP.mp z with z | z
  ·exact q.a n z
  ·exact .s w (by rw [eI e]; exact df.mpr z)
 ·by_cases em:m=k
  ·subst em
   rw [eI e] at z;exact BP.mpr (.inr (df.mp z))
  ·exact BP.mpr (.inl (q.c m (by omega) wm n z))
section
variable {P:Program}{w:World}{K:PySem.W.Frag}{mg:Str->Option Value}{base:Heap}{f:Addr}{fd:FuncData}{k:Nat}
theorem sh:Nd "_law_by" := ∅
theorem av49:AF (defScope (top 49)) ["_law_tables", "_law_holds", "_law_ends", "_law_wanted", "_law_shapes", "_law_first", "_law_place", "_law_leaves", "_law_bits", "_law_told", "_law_k", "_law_paper", "_law_blocks", "_law_kept"]:=⟨∅⟩
theorem gl49:AG (defScope (top 49)) ["list", "range", "len", "tuple"]:=⟨∅⟩
def lh:Scope:={ kind:=PySem.ScopeKind.function,names:=[(PySem.Str.ofString ".0",PySem.NameKind.local),(PySem.Str.ofString "_law_k",PySem.NameKind.local)],isGenerator:=false,isCoroutine:=false,more:=[]:PySem.Scope }
theorem si:CompOk lh (defScope (top 49)) (["_law_k"]:List Str) (["_law_tables", "_law_holds", "_law_ends", "_law_wanted", "_law_shapes", "_law_first", "_law_place", "_law_leaves", "_law_bits", "_law_told", "_law_k", "_law_paper", "_law_blocks", "_law_kept"]:List Str) [] (["_law_k"]:List Str):=compOk rfl ∅ ∅ ∅ ∅ rfl ∅
theorem sk:AK (relab lh (defScope (top 49))) ["_law_k"]:=⟨∅⟩
theorem AW:AV (relab lh (defScope (top 49))) ["_law_k"]:=⟨∅⟩
def iG:Scope:={ kind:=PySem.ScopeKind.function,names:=[ (PySem.Str.ofString ".0",PySem.NameKind.local),(PySem.Str.ofString "_law_leaf",PySem.NameKind.local),(PySem.Str.ofString "_law_by",PySem.NameKind.globalImplicit),(PySem.Str.ofString "_law_paper",PySem.NameKind.free)],isGenerator:=false,isCoroutine:=false,more:=[]:PySem.Scope }
theorem sm:CompOk iG (defScope (top 49)) (["_law_leaf"]:List Str) (["_law_tables", "_law_holds", "_law_ends", "_law_wanted", "_law_shapes", "_law_first", "_law_place", "_law_leaves", "_law_bits", "_law_told", "_law_k", "_law_paper", "_law_blocks", "_law_kept"]:List Str) [11] (["_law_leaf", "_law_paper"]:List Str):=compOk rfl ∅ ∅ ∅ ∅ rfl ∅
theorem su:AK (relab iG (defScope (top 49))) ["_law_leaf"]:=⟨∅⟩
theorem AX:AG (relab iG (defScope (top 49))) ["_law_by"]:=⟨∅⟩
theorem sv:AV (relab iG (defScope (top 49))) ["_law_leaf", "_law_paper"]:=⟨∅⟩
def iH:Scope:={ kind:=PySem.ScopeKind.function,names:=[ (PySem.Str.ofString ".0",PySem.NameKind.local),(PySem.Str.ofString "_law_place",PySem.NameKind.local),(PySem.Str.ofString "_law_by",PySem.NameKind.globalImplicit),(PySem.Str.ofString "_law_paper",PySem.NameKind.free)],isGenerator:=false,isCoroutine:=false,more:=[]:PySem.Scope }
theorem sx:CompOk iH (defScope (top 49)) (["_law_place"]:List Str) (["_law_tables", "_law_holds", "_law_ends", "_law_wanted", "_law_shapes", "_law_first", "_law_place", "_law_leaves", "_law_bits", "_law_told", "_law_k", "_law_paper", "_law_blocks", "_law_kept"]:List Str) [11] (["_law_place", "_law_paper"]:List Str):=compOk rfl ∅ ∅ ∅ ∅ rfl ∅
theorem sy:AK (relab iH (defScope (top 49))) ["_law_place"]:=⟨∅⟩
theorem AY:AG (relab iH (defScope (top 49))) ["_law_by"]:=⟨∅⟩
theorem sC:AV (relab iH (defScope (top 49))) ["_law_place", "_law_paper"]:=⟨∅⟩
def spDue:Sp:=fun vs H Q _=>∃ (ex:List Addr) (tl kl ol:Addr) (ins:Nat) (ts:List Tb) (ks:List Kp) (os:List Plc),vs=[.ref tl,.ref kl,.ref ol]/\DrAt ex H tl kl ol ts ks os/\Okd ins ts ks os /\
 ∀ R bl sl pl bps sps pps H',Ch [] H H'->H' R=some (.tup [.ref bl,.ref sl,.ref pl])->H' bl=some (.lst (bps.map V.ref))->Paired (BkAt .tuple H') (bls ts ks os) bps->H' sl=some (.lst (sps.map V.ref))->WsAt H' ((ots ts ks os).map srcK) sps->H' pl=some (.lst (pps.map V.ref))->WsAt H' ((ppr ts ks os).map plK) pps->Q (.ref R) H'
theorem scDue:FnScope ["_law_tables", "_law_holds", "_law_ends", "_law_wanted", "_law_shapes", "_law_first", "_law_place", "_law_leaves", "_law_bits", "_law_told", "_law_k", "_law_paper", "_law_blocks", "_law_kept"] ["_law_tables", "_law_holds", "_law_ends"] (defScope (top 49)):=⟨rfl,rfl,rfl,∅,rfl,∅,∅⟩
theorem AZ (F:Fun K "_law_due_pack" "_law_due_pack" (top 49) f fd) (D_law_by:DefOk P w K mg base CX0 k "_law_by" ["_law_paper", "_law_place"] spBy) (z_list:mg "list" = none) (z_range:mg "range" = none) (z_len:mg "len" = none) (z_tuple:mg "tuple" = none):FnOk P w K mg base CX0 (k + 1) f fd ["_law_tables", "_law_holds", "_law_ends"] spDue:=by
 have nd:=scDue.nd;refine F.ok scDue (fun vs H Q E h=>by obtain ⟨ex,tl,kl,ol,ins,ts,ks,os,rfl,_⟩:=h; rfl) (fun cdv A outer s H vs Q E hr h=>?_)
 obtain ⟨ex,tl,kl,ol,ins,ts,ks,os,rfl,dr,ok,q⟩:=h;obtain ⟨_,tps,ht,tt⟩:=dr.t;obtain ⟨_,kps,hk,kk⟩:=dr.k;obtain ⟨_,ops,ho,oo⟩:=dr.o;have lt:=BH tt;have lk:=BH kk;have lo:=BH oo;rw [BF] at lo;have t12:=ok.lt;have k12:=ok.lk;have o12:=ok.lo;refine ⟨_,(Pr.h (ah (ay (i:=3) nd rfl (av49.l 3 rfl) (aZ dC (gl49.g 0 rfl) z_list cm (aa (qv av49 2 rfl) ab ae) cu cw)) (ah (ay (i:=4) nd rfl (av49.l 4 rfl) (bZ ab)) (ah (bK Ci rfl (bj (qv av49 1 rfl)) (cN rfl (aw (aj (i:=5) nd rfl (av49.l 5 rfl)) (aw (aj (i:=6) nd rfl (av49.l 6 rfl)) ba))) (ah (ay (i:=7) nd rfl (av49.l 7 rfl) (bZ (aa (qv av49 6 rfl) ab ae))) (ah (ay (i:=8) nd rfl (av49.l 8 rfl) ag) (gg (aC (ax br (ak az (qv av49 6 rfl) ag (fun _ _=>rfl)) aM (nomark _)) (ai (eS (ak bR (qv av49 0 rfl) (ak az (qv av49 6 rfl) ag (fun _ _=>rfl)) (fun _ _=>rfl)) (cN rfl (aw (aj (i:=7) nd rfl (av49.l 7 rfl)) (aw (aj (i:=8) nd rfl (av49.l 8 rfl)) ba))))) aE) (ah (bp (bM Cr CG CH cy (qv av49 4 rfl) (aa (aN (aa (qv av49 7 rfl) (aa (qv av49 8 rfl) (aa ag (aa (qv av49 5 rfl) ab ae) aV) ae) ae)) ab dF))) (ai (ay (i:=3) nd rfl (av49.l 3 rfl) (av iS (qv av49 3 rfl) (aZ dC (gl49.g 0 rfl) z_list cm (aa (qv av49 7 rfl) ab ae) cu cw))))))))) (ah (ay (i:=9) nd rfl (av49.l 9 rfl) (bZ ab)) (ah (bK Ci rfl (yP (gl49.g 1 rfl) z_range (aa (av dY (aq aJ (gl49.g 2 rfl) z_len BY (aa (qv av49 0 rfl) ab ae) aK aL) ag) (aa (iZ iN ag) (aa (iZ iN ag) ab iW) iW) bT)) (aj (i:=10) nd rfl (av49.l 10 rfl)) (ai (aC (ax (jq hr.units) (aN (aa aM (aa (qv av49 10 rfl) ab ae) aV)) (qv av49 3 rfl) rfl) (ah (bp (bM Cr PySem.F.slot_list_insert PySem.F.type_list_insert xW (qv av49 9 rfl) (aa ag (aa (aN (aa aM (aa (qv av49 10 rfl) ab ae) aV)) ab dF) aV))) (ai (ay (i:=3) nd rfl (av49.l 3 rfl) (av iS (qv av49 3 rfl) (aZ dC (gl49.g 0 rfl) z_list cm (aa (ak az (ak bR (qv av49 0 rfl) (qv av49 10 rfl) (fun _ _=>rfl)) ag (fun _ _=>rfl)) ab aS) cu cw))))) aE))) (ah (ay (i:=11) nd rfl (av49.l 11 rfl) (av iS (aR rfl si (cV (gl49.g 1 rfl) z_range (aa (aq aJ (gl49.g 2 rfl) z_len BY (aa (qv av49 1 rfl) ab ae) aK aL) ab bf)) (fun _ _ _ _ _=>(aj (i:=0) si.nd rfl (Or.inl (sk.k 0 rfl)) (Or.inr (sk.k 0 rfl)))) (fun _ _ _ _ _=>aU) (fun _ _ _ _ _=>(aN (aa aM (aa (qw AW 0 rfl) ab ae) aV)))) (qv av49 9 rfl))) (ah (bK Ci rfl (bj (qv av49 9 rfl)) (aj (i:=6) nd rfl (av49.l 6 rfl)) (ah (eS (ak bR (qv av49 0 rfl) (ak az (qv av49 6 rfl) ag (fun _ _=>rfl)) (fun _ _=>rfl)) (cN rfl (aw (aj (i:=7) nd rfl (av49.l 7 rfl)) (aw (aj (i:=8) nd rfl (av49.l 8 rfl)) ba)))) (ai (bp (bM Cr CG CH cy (qv av49 4 rfl) (aa (aN (aa (qv av49 7 rfl) (aa (qv av49 8 rfl) (aa ag (aa ag ab aV) aV) ae) ae)) ab dF)))))) (ah (ay (i:=12) nd rfl (av49.l 12 rfl) (bZ ab)) (ah (bK Ci rfl (bj (qv av49 4 rfl)) (cN rfl (aw (aj (i:=7) nd rfl (av49.l 7 rfl)) (aw (aj (i:=8) nd rfl (av49.l 8 rfl)) (aw (aj (i:=13) nd rfl (av49.l 13 rfl)) (aw (aj (i:=5) nd rfl (av49.l 5 rfl)) ba))))) (ai (bp (bM Cr CG CH cy (qv av49 12 rfl) (aa (aN (aa (aZ cQ (gl49.g 3 rfl) z_tuple bD (aa (aR rfl sm (bj (qv av49 7 rfl)) (fun _ _ _ _ _=>(aj (i:=0) sm.nd rfl (Or.inl (su.k 0 rfl)) (Or.inr (su.k 0 rfl)))) (fun _ _ _ _ _=>aU) (fun _ _ _ _ _=>(ao D_law_by hr (AX.g 0 rfl) pass0 (aa (qw sv 1 rfl) (aa (qw sv 0 rfl) ab ae) ae) sh))) ab bc) bE bF) (aa (qv av49 8 rfl) (aa (qv av49 13 rfl) (aa (qv av49 5 rfl) ab ae) ae) ae) bf)) ab dF))))) (ai (au (aN (aa (qv av49 12 rfl) (aa (aR rfl sx (bj (qv av49 2 rfl)) (fun _ _ _ _ _=>(aj (i:=0) sx.nd rfl (Or.inl (sy.k 0 rfl)) (Or.inr (sy.k 0 rfl)))) (fun _ _ _ _ _=>aU) (fun _ _ _ _ _=>(ao D_law_by hr (AY.g 0 rfl) pass0 (aa (qw sC 1 rfl) (aa (qw sC 0 rfl) ab ae) ae) sh))) (aa (qv av49 11 rfl) ab ae) bc) ae)))))))))))))),?_⟩
 (try dsimp only [cxOf])
 walk_at "rd";rename_i wa hwa sl hsl;have c0:Ch [] H (upd (upd H wa (.lst (ops.map V.ref))) sl (.lst [])):=(Ch.new hwa _).trans (Ch.new hsl _);have fsl:H sl=none:=chFree (Ch.new hwa _) hsl;have gw0:(upd (upd H wa (.lst (ops.map V.ref))) sl (.lst [])) wa=some (.lst (ops.map V.ref)):=aA hsl af;have nw0:wa≠sl:=ar (show (upd H wa (.lst (ops.map V.ref))) wa=_ from af) hsl;have s0:SL H (upd (upd H wa (.lst (ops.map V.ref))) sl (.lst [])) [sl] sl []:=⟨c0,fsl,by simp,[],af,.nil⟩
 have w0:=oo.tu (Tu.same c0);have fk:∀ (i:Nat) (x:Kp),ks[i]?=some x->(ks.take (i + 1)).flatMap (fun k=>(ktab ts k.pl).ls)=(ks.take i).flatMap (fun k=>(ktab ts k.pl).ls)++(ktab ts x.pl).ls:=fun i x e=>by
  rw [B0,e,List.flatMap_append]; simp
 have ln:∀ i,((ks.take i).flatMap fun k=>(ktab ts k.pl).ls).length<=4 * i:=fun i=>by
  induction i with
  | zero=>simp
  | succ i ih =>
   cases e:ks[i]? with
   | none=>rw [B0,e]; simp; simp at ih; omega
   | some x =>
    rw [fk i x e,BU];have:=dX ok (BO e);omega
 refine dM (xs:=kps.map V.ref) (fun i σ H'=>∃ (wa:Addr) (wps:List Addr) (u5 u6 u7 u8:Option V),σ=[some (.ref tl),some (.ref kl),some (.ref ol),some (.ref wa),some (.ref sl),u5,u6,u7,u8,none,none,none,none,none]/\SL H H' [sl] sl ((ks.take i).map (shK ts))/\H' wa=some (.lst (wps.map V.ref))/\WsAt H' ((os++(ks.take i).flatMap fun k=>(ktab ts k.pl).ls).map plK) wps/\wa≠sl) ⟨wa,ops,_,_,_,_,rfl,s0,gw0,by simpa using w0,nw0⟩ ?_ ?_ ?_
 ·rintro i σ H' hi ⟨_,_,_,_,_,_,_,sL,_⟩
  exact SqL.of (sL.ch.get hk (by simp))
 ·clear s0 gw0 nw0 w0 c0 hwa hsl
  rintro i z σ H' hz ⟨wa,wps,u5,u6,u7,u8,rfl,sL,gw,ww,nw⟩;obtain ⟨p,t,rfl,et,t1⟩:=bq kk i z hz;obtain ⟨pp,hp,hpp⟩:=t1.tu (Tu.same sL.ch);have hi:i < ks.length:=(BX.mp et).1;have li:=ln i;have mt:=BO et;have okk:=ok.k t mt;have s4:=dX ok mt;rw [fk i t et,B0,et,show (some t).toList=[t] from rfl,BL];have lsn:((ks.take i).map (shK ts)).length<=12:=by rw [BF,B8]; omega
  generalize (ks.take i).flatMap (fun k=>(ktab ts k.pl).ls)=fm at li ww ⊢
  generalize (ks.take i).map (shK ts)=ss at sL lsn ⊢;have lw:(os++fm).length=wps.length:=by have:=BH ww; simpa using this
  rw [BU] at lw;walk_at "rd";rename_i nl hnl;have cn:Ch [] H' (upd H' nl (.lst [.ref pp])):=Ch.new hnl _;have gn:(upd H' nl (.lst [.ref pp])) nl=some (.lst (([pp]:List Addr).map V.ref)):=af;obtain ⟨sps,gs,pr⟩:=sL.ex;have lsp:=BH pr;have nns:nl≠sl:=(ar gs hnl).symm;have hpp1:=cn.get hpp (by simp)
  have s1:=sL.new cn;have gw1:=cn.get gw (by simp)
  have ww1:=ww.tu (Tu.same cn);clear hp hpp sL gw ww gs pr hnl;generalize upd H' nl (.lst [.ref pp])=H1 at cn gn hpp1 s1 gw1 ww1 ⊢;clear cn;walk_at "rd";refine gc (fun σ H2=>∃ (lp:Addr) (qs:List Addr),σ=[some (.ref tl),some (.ref kl),some (.ref ol),some (.ref wa),some (.ref sl),some (bV t.f),some (.ref pp),some (.ref lp),some (.int (ktab ts t.pl).bits),none,none,none,none,none]/\H2=H1/\H1 lp=some (.lst (qs.map V.ref))/\WsAt H1 ((ktab ts t.pl).ls.map plK) qs/\lp ∉ [sl]) ?_ ?_
  ·obtain ⟨tf,⟨wd,n⟩⟩:=t
   cases wd with
   | t =>
    have hn:n < ts.length:=okk;have e1:ts[n]?=some ts[n]:=BJ hn;have hl:n < tps.length:=by walk_at "lt"
    have i1:atI (tps.map V.ref) (n:Int)=some (.ref tps[n]):=bW (by rw [BN,BJ hl]; rfl)
    obtain ⟨lp,qs,_,h1,h2,ws⟩:=bN tt n hn hl;have ht1:=s1.ch.get ht (by simp)
    have h11:=s1.ch.get h1 (by simp)
    have nsl:lp ∉ [sl]:=by simpa using ar h2 fsl
    have h21:=s1.ch.get h2 (by simp)
    have wsn:=ws.tu (Tu.same s1.ch);have hpp1:H1 pp=some (.tup [.str "table",.int (n:Int)]):=hpp1;walk_at "rd";rw [fP e1];exact ⟨rfl,rfl,h21,wsn,nsl⟩
   | i =>
    have hpp1:H1 pp=some (.tup [.str "in",.int (n:Int)]):=hpp1;walk_at "rd";exact ⟨.cons hpp1 .nil,by simpa using nns⟩
   | k =>
    have hpp1:H1 pp=some (.tup [.str "keep",.int (n:Int)]):=hpp1;walk_at "rd";exact ⟨.cons hpp1 .nil,by simpa using nns⟩
  ·clear gn hpp1 nns lsp
   rintro σ H2 ⟨lp,qs,rfl,rfl,gl,wl,nlp⟩;obtain ⟨sps,gs,pr⟩:=s1.ex;have lsp:=BH pr;have lq:(ktab ts t.pl).ls.length=qs.length:=by have:=BH wl; simpa using this
   have z12:(sps.map V.ref).length<=12:=by rw [BF]; omega
   walk_at "rd";rename_i T hT;have sA:=s1.add (s1:=shK ts t) gs hT nlp gl wl;have kk:Kl [sl] H2 (upd (upd H2 T (.tup [.ref lp,.int (ktab ts t.pl).bits,.int 1,.int (bi t.f)])) sl (.lst (sps.map V.ref++[V.ref T]))):=(Kl.new (Ch.new hT _)).trans (Kl.one Ch.put (aA hT gs) (by simp))
   have glA:=kk.l _ _ nlp gl;have gwA:=kk.l _ _ (by simpa using nw) gw1
   have wlA:=wl.tu kk.t;have wwA:=ww1.tu kk.t;have gsA:(upd (upd H2 T (.tup [.ref lp,.int (ktab ts t.pl).bits,.int 1,.int (bi t.f)])) sl (.lst (sps.map V.ref++[V.ref T]))) sl=some (.lst (sps.map V.ref++[V.ref T])):=af;have zz:(wps.map V.ref).length + (qs.map V.ref).length<=sizeLine:=by rw [BF,BF,BR]; omega
   refine ⟨.inl (SqL.of glA),fun l1 hl1=>?_⟩
   have c1:=Ch.new (W:=[]) hl1 (.lst (qs.map V.ref));refine ⟨wa,l1,wps.map V.ref,qs.map V.ref,rfl,rfl,c1.get gwA (by simp),af,zz,fun p2 hp2=>?_⟩
   have c2:=c1.trans (Ch.new hp2 (.lst (wps.map V.ref++qs.map V.ref)));refine ⟨p2,wps++qs,_,_,_,_,rfl,sA.new c2,by rw [af,BL],?_,ar (c1.get gsA (by simp)) hp2 |>.symm⟩
   rw [<- C6,BL];exact fT (wwA.tu (Tu.same c2)) (wlA.tu (Tu.same c2))
 ·clear s0 gw0 nw0 w0 c0 hwa hsl
  rintro σ H1 ⟨wa,wps,u5,u6,u7,u8,rfl,sL,gw,ww,nw⟩;rw [BF,<- lk,B2] at sL ww;have l1:=ln ks.length;rw [B2] at l1;have q0:LW2 ts ks os (os++ks.flatMap fun k=>(ktab ts k.pl).ls) ts.length:=by
   have e:∀ n,(Wd.t,n)∈(os++ks.flatMap fun k=>(ktab ts k.pl).ls)↔n∈st0 ts ks os:=fun n=>by
    unfold st0;rw [BP,BP,List.mem_flatMap,List.mem_flatMap,df];refine or_congr Iff.rfl ⟨fun ⟨k,h1,h2⟩=>⟨k,h1,df.mpr h2⟩,fun ⟨k,h1,h2⟩=>⟨k,h1,df.mp h2⟩⟩
   exact ⟨fun n h=>.b ((e n).mp h),fun n h=>(e n).mpr h,fun m hm w=>absurd (bQ ok w) (by omega)⟩
  have lw0:(os++ks.flatMap fun k=>(ktab ts k.pl).ls).length<=60:=by rw [BU]; omega
  generalize os++ks.flatMap (fun k=>(ktab ts k.pl).ls)=wl0 at ww q0 lw0
  have ht1:H1 tl=some (.lst (tps.map V.ref)):=sL.ch.get ht (by simp)
  walk_at "rd";rename_i td htd;have ftd:H td=none:=chFree sL.ch htd;have n1:wa ∉ [sl,td]:=by simp only [BV,Cp,Cq,not_or]; exact ⟨nw,ar gw htd⟩
  have n2:td≠sl:=fun z=>by obtain ⟨_,g,_⟩:=sL.ex; rw [z,g] at htd; cases htd
  have s2:=(sL.more htd).new (Ch.new htd (.lst []));have f0:(wtd ts ks os).filter (fun n=>decide (ts.length<=n))=[]:=List.filter_eq_nil_iff.mpr fun n hn=>by have:=bQ ok ((cz ok).mp hn); simp; omega
  have et:(((tps.map V.ref).length:Int) - 1 + 1).toNat=ts.length:=by rw [BF]; omega
  dsimp only
  rw [et];refine yQ (fun j σ H'=>∃ (wa:Addr) (wps tqs:List Addr) (wl:List Plc) (u10:Option V),σ=[some (.ref tl),some (.ref kl),some (.ref ol),some (.ref wa),some (.ref sl),u5,u6,u7,u8,some (.ref td),u10,none,none,none]/\SL H H' [sl,td] sl (ks.map (shK ts))/\H' wa=some (.lst (wps.map V.ref))/\WsAt H' (wl.map plK) wps/\wa ∉ [sl,td]/\LW2 ts ks os wl (ts.length - j)/\wl.length<=60 + 4 * j/\H' td=some (.lst (tqs.map V.ref))/\WsAt H' ((((wtd ts ks os).filter (fun n=>decide (ts.length - j<=n))).map fun n=>(Wd.t,n)).map plK) tqs) ⟨wa,wps,[],wl0,_,rfl,s2,aA htd gw,ww.tu (Tu.new _ htd),n1,q0,by omega,af,by rw [Nat.sub_zero,f0]; exact .nil⟩ ?_ ?_
  ·clear s2 q0 gw ww n1 nw htd lw0 ht1 sL
   rintro j σ H' hj ⟨wa,wps,tqs,wl,u10,rfl,sL,gw,ww,nw,lq,lw,gt,wt⟩;have hk1:ts.length - j=ts.length - (j + 1) + 1:=by omega
   have ek:((tps.map V.ref).length:Int) - 1 - (j:Int)=((ts.length - (j + 1):Nat):Int):=by rw [BF]; omega
   rw [ek];rw [hk1] at lq wt;have hkl:ts.length - (j + 1) < ts.length:=by omega
   have iff1:=lq.iff ok;have wst:=AU (ig ts ks os) (ts.length - (j + 1));generalize ts.length - (j + 1)=k1 at lq wt hkl iff1 wst ⊢;have lwp:wl.length=wps.length:=by have:=BH ww; simpa using this
   walk_at "rd";rename_i T1 hT1;have cT:Ch [] H' (upd H' T1 (.tup [.str "table",.int (k1:Int)])):=Ch.new hT1 _;refine ⟨lg (plK (.t,k1)),cT.get gw (by simp),rZ (ww.tu (Tu.same cT)),decide ((Wd.t,k1)∈wl),Cs V.bl (se (pp:=wl) (p:=(Wd.t,k1))),?_⟩
   have s2:=sL.new cT;have gw2:=cT.get gw (by simp)
   have ww2:=ww.tu (Tu.same cT);have gt2:=cT.get gt (by simp)
   have wt2:=wt.tu (Tu.same cT);clear sL gw ww gt wt hT1;generalize upd H' T1 (.tup [.str "table",.int (k1:Int)])=H2 at cT s2 gw2 ww2 gt2 wt2 ⊢;clear cT
   by_cases hw:k1∈wtd ts ks os
   ·rw [Co (iff1.mpr hw)]
    rw [if_pos hw] at wst;rw [wst];have e1:ts[k1]?=some ts[k1]:=BJ hkl;have hl:k1 < tps.length:=by walk_at "lt"
    have i1:atI (tps.map V.ref) (k1:Int)=some (.ref tps[k1]):=bW (by rw [BN,BJ hl]; rfl)
    obtain ⟨lp,qs,_,h1,h2,ws⟩:=bN tt k1 hkl hl;have nlp:lp ∉ [sl,td]:=by simp only [BV,Cp,Cq,not_or]; exact ⟨ar h2 fsl,ar h2 ftd⟩
    have okt:=ok.t k1 _ e1;have l4:=okt.l4;have lq4:ts[k1].ls.length=qs.length:=by have:=BH ws; simpa using this
    have m1:=lq.more ok hw e1;have t1000:(tqs.map V.ref).length < 1000:=by
     have:=BH wt2;rw [BF,BF] at this;have l2:=CO (fun n=>decide (k1 + 1<=n)) (wtd ts ks os)
     have l3:=ie ts ks os;rw [BF];omega
    generalize (wtd ts ks os).filter (fun n=>decide (k1 + 1<=n))=fl at wt2 ⊢
    walk_at "rd";rename_i T hT;have cT:=Ch.new (W:=[]) hT (.tup [.str "table",.int (k1:Int)]);have gtT:=cT.get gt2 (by simp)
    have s3:=(s2.new cT).put (zs:=(tqs.map V.ref).take (Int.toNat 0)++V.ref T :: (tqs.map V.ref).drop (Int.toNat 0)) ftd gtT (by simp) n2
    have kk:=(Kl.new (ex:=[sl,td]) cT).trans (Kl.one (Ch.put (o:=.lst ((tqs.map V.ref).take (Int.toNat 0)++V.ref T :: (tqs.map V.ref).drop (Int.toNat 0)))) gtT (by simp))
    have gw3:=kk.l _ _ nw gw2;have ww3:=ww2.tu kk.t;have gt3:(upd (upd H2 T (.tup [.str "table",.int (k1:Int)])) td (.lst ((tqs.map V.ref).take (Int.toNat 0)++V.ref T :: (tqs.map V.ref).drop (Int.toNat 0)))) td=some (.lst ((T :: tqs).map V.ref)):=af;have wt3:WsAt (upd (upd H2 T (.tup [.str "table",.int (k1:Int)])) td (.lst ((tqs.map V.ref).take (Int.toNat 0)++V.ref T :: (tqs.map V.ref).drop (Int.toNat 0)))) (((k1 :: fl).map fun n=>(Wd.t,n)).map plK) (T :: tqs):=.cons (aB (ar gt2 hT).symm af) (wt2.tu kk.t)
    refine ⟨SqL.of (s3.ch.get ht (by simp)),Atx.of i1 ?_⟩
    clear s2 gw2 ww2 gt2 wt2 hT cT gtT kk;generalize upd (upd H2 T (.tup [.str "table",.int (k1:Int)])) td (.lst ((tqs.map V.ref).take (Int.toNat 0)++V.ref T :: (tqs.map V.ref).drop (Int.toNat 0)))=H3 at s3 gw3 ww3 gt3 wt3 ⊢;have h13:=s3.ch.get h1 (by simp)
    have h23:=s3.ch.get h2 (by simp)
    have ws3:=ws.tu (Tu.same s3.ch);walk_at "rd";rename_i l1 hl1 p2 hp2;have c2:=(Ch.new (W:=[]) hl1 (.lst (qs.map V.ref))).trans (Ch.new hp2 (.lst (wps.map V.ref++qs.map V.ref)));have g2:(upd (upd H3 l1 (.lst (qs.map V.ref))) p2 (.lst (wps.map V.ref++qs.map V.ref))) p2=some (.lst ((wps++qs).map V.ref)):=by rw [af,BL]
    have w2:WsAt (upd (upd H3 l1 (.lst (qs.map V.ref))) p2 (.lst (wps.map V.ref++qs.map V.ref))) ((wl++ts[k1].ls).map plK) (wps++qs):=by
     rw [BL];exact fT (ww3.tu (Tu.same c2)) (ws3.tu (Tu.same c2))
    have n3:p2 ∉ [sl,td]:=by
     have c1:=Ch.new (W:=[]) hl1 (.lst (qs.map V.ref));obtain ⟨_,g,_⟩:=(s3.new c1).ex;simp only [BV,Cp,Cq,not_or];exact ⟨(ar g hp2).symm,(ar (c1.get gt3 (by simp)) hp2).symm⟩
    exact ⟨s3.new c2,g2,w2,n3,m1,by rw [BU]; omega,c2.get gt3 (by simp),wt3.tu (Tu.same c2)⟩
   ·rw [Cv (fun z=>hw (iff1.mp z))]
    rw [if_neg hw] at wst;rw [wst];have m1:=lq.old ok hw;walk_at "rd"
  ·clear s2 q0 gw ww n1 nw htd lw0 ht1 sL
   rintro σ H4 ⟨wa,wps,tqs,wl,u10,rfl,sL,gw,ww,nw,lq,lw,gt,wt⟩;rw [Nat.sub_self,show (wtd ts ks os).filter (fun n=>decide (0<=n))=wtd ts ks os from List.filter_eq_self.mpr fun _ _=>Co (Ck _)] at wt
   have hk4:=sL.ch.get hk (by simp)
   clear gw ww nw lq lw;have ltq:(wtd ts ks os).length=tqs.length:=by have:=BH wt; simpa using this
   have lw:=ie ts ks os;walk_at "rd";refine gj (fun m ys σ H'=>Ch [] H4 H'/\(∃ ps,ys=ps.map V.ref/\WsAt H' (((List.range m).map fun n=>(Wd.k,n)).map plK) ps)/\∃ u,σ=[u]) (by rw [BR]; simp; omega) ⟨Ch.refl _ _,⟨[],rfl,.nil⟩,_,rfl⟩ ?_ ?_ ?_
   ·rintro m ys σ H' hm ⟨_,⟨ps,rfl,wp⟩,_⟩
    have:=BH wp;simp at this;rw [BF];omega
   ·rintro m ys σ H' hm ⟨c,⟨ps,rfl,wp⟩,u,rfl⟩
    walk_at "rd";rename_i p hp;refine ⟨⟨ps++[p],by simp,?_⟩,_,rfl⟩
    rw [List.range_succ,BL,BL];refine bu (R:=fun k r=>(upd H' p (.tup [.str "keep",.int (0 + (m:Int))])) r=some (.tup (List.map kV k))) ?_ (wp.tu (Tu.new _ hp))
    rw [af,Int.zero_add];rfl
   rintro ys σ H5 ⟨c5,⟨kqs,rfl,wk⟩,_⟩;have ek:(((kps.map V.ref).length:Nat):Int).toNat=ks.length:=by rw [BF,Dc,lk]
   rw [ek] at wk;have lkq:ks.length=kqs.length:=by have:=BH wk; simpa using this
   intro kl2 hkl2;have s5:=sL.new (c5.trans (Ch.new hkl2 (.lst (kqs.map V.ref))));have gk5:(upd H5 kl2 (.lst (kqs.map V.ref))) kl2=some (.lst (kqs.map V.ref)):=af;have gt5:=(c5.trans (Ch.new hkl2 (.lst (kqs.map V.ref)))).get gt (by simp)
   have w5:WsAt (upd H5 kl2 (.lst (kqs.map V.ref))) ((ppr ts ks os).map plK) (kqs++tqs):=by
    unfold ppr;rw [BL];exact fT (wk.tu (Tu.new _ hkl2)) (wt.tu (Tu.same (c5.trans (Ch.new hkl2 _))))
   have wt5:=wt.tu (Tu.same (c5.trans (Ch.new hkl2 (.lst (kqs.map V.ref)))));clear sL gt wt hkl2 wk c5 hk4;generalize upd H5 kl2 (.lst (kqs.map V.ref))=H6 at s5 gk5 gt5 w5 wt5 ⊢;have zl:(kqs.map V.ref).length + (tqs.map V.ref).length<=sizeLine:=by rw [BF,BF,BR]; omega
   walk_at "rd";rename_i pl hpl;have s7:=s5.new (Ch.new hpl (.lst (kqs.map V.ref++tqs.map V.ref)));have gp7:(upd H6 pl (.lst (kqs.map V.ref++tqs.map V.ref))) pl=some (.lst ((kqs++tqs).map V.ref)):=by rw [af,BL]
   have gt7:(upd H6 pl (.lst (kqs.map V.ref++tqs.map V.ref))) td=some (.lst (tqs.map V.ref)):=aA hpl gt5;have w7:=w5.tu (Tu.new (.lst (kqs.map V.ref++tqs.map V.ref)) hpl);have wt7:=wt5.tu (Tu.new (.lst (kqs.map V.ref++tqs.map V.ref)) hpl);have npl:pl ∉ [sl,td]:=by
    obtain ⟨_,g,_⟩:=s5.ex;simp only [BV,Cp,Cq,not_or];exact ⟨(ar g hpl).symm,(ar gt5 hpl).symm⟩
   clear s5 gk5 gt5 w5 wt5 hpl zl;generalize upd H6 pl (.lst (kqs.map V.ref++tqs.map V.ref))=H7 at s7 gp7 gt7 w7 wt7 ⊢;generalize kqs++tqs=pps at gp7 w7;refine dM (xs:=tqs.map V.ref) (fun i σ H'=>∃ (u6 u7 u8:Option V),σ=[some (.ref tl),some (.ref kl),some (.ref ol),some (.ref wa),some (.ref sl),u5,u6,u7,u8,some (.ref td),u10,some (.ref pl),none,none]/\SL H H' [sl,td] sl (ks.map (shK ts)++((wtd ts ks os).take i).map (shT ts))/\Kl [sl,td] H7 H'/\H' td=some (.lst (tqs.map V.ref))) ⟨_,_,_,rfl,by simpa using s7,Kl.new (Ch.refl _ _),gt7⟩ ?_ ?_ ?_
   ·rintro i σ H' hi ⟨_,_,_,_,_,_,g⟩
    exact SqL.of g
   ·clear s7 gt7
    rintro i z σ H' hz ⟨u6,u7,u8,rfl,sL,kL,gt⟩;obtain ⟨p,⟨x,n⟩,rfl,ex,hp⟩:=cP wt7 i z hz;have hp:=kL.t _ _ hp;rw [BN] at ex;obtain ⟨n',en,e⟩:=B5.mp ex;cases e;have wn:=(cz ok).mp (BO en);have hn:=bQ ok wn;have e1:ts[n]?=some ts[n]:=BJ hn;have hl:n < tps.length:=by walk_at "lt"
    have i1:atI (tps.map V.ref) (n:Int)=some (.ref tps[n]):=bW (by rw [BN,BJ hl]; rfl)
    obtain ⟨lp,qs,_,h1,h2,ws⟩:=bN tt n hn hl;have nlp:lp ∉ [sl,td]:=by simp only [BV,Cp,Cq,not_or]; exact ⟨ar h2 fsl,ar h2 ftd⟩
    have ht':=sL.ch.get ht (by simp)
    have h1':=sL.ch.get h1 (by simp)
    have h2':=sL.ch.get h2 (by simp)
    have ws':=ws.tu (Tu.same sL.ch);obtain ⟨sps,gs,pr⟩:=sL.ex;have lsp:=BH pr;rw [BU,BF,BF,B8] at lsp;have z40:(sps.map V.ref).length<=40:=by rw [BF]; omega
    have bt:shT ts n=⟨ts[n].ls,ts[n].bits,0,0⟩:=by show (⟨(ts.getD n _).ls,(ts.getD n _).bits,0,0⟩:Sh)=_; rw [dg e1]
    rw [B0,en,show (some n).toList=[n] from rfl,BL,<- C6];have hp:H' p=some (.tup [.str "table",.int (n:Int)]):=hp;walk_at "rd";rename_i T hT;have sA:=sL.add (s1:=shT ts n) gs hT nlp h2' (by rw [bt]; exact ws')
    rw [bt] at sA;have kT:Kl [sl,td] H' (upd (upd H' T (.tup [.ref lp,.int ts[n].bits,.int 0,.int 0])) sl (.lst (sps.map V.ref++[V.ref T]))):=(Kl.new (Ch.new hT _)).trans (Kl.one Ch.put (aA hT gs) (by simp))
    exact ⟨by rw [B4,List.map_nil,bt]; exact sA,kL.trans kT,aB n2 (aA hT gt)⟩
   ·rintro σ H8 ⟨u6,u7,u8,rfl,sL,kL,gt⟩
    rw [BF,<- ltq,B2] at sL;have gp8:=kL.l _ _ npl gp7;have w8:=w7.tu kL.t;have ho8:=sL.ch.get ho (by simp)
    have oo8:=oo.tu (Tu.same sL.ch);have c8:=sL.ch;obtain ⟨sps,gs,pr⟩:=sL.ex;have lp24:=e8 (ts:=ts) (ks:=ks) (os:=os);have eb:=AS ts ks os;have kns:∀ s∈ks.map (shK ts)++(wtd ts ks os).map (shT ts),s.ls.length<=4/\∀ p∈s.ls,Kn (ppr ts ks os) p:=by
     intro s hs;rcases BP.mp hs with z | z
     ·obtain ⟨k,hk,rfl⟩:=BQ.mp z
      exact ⟨dX ok hk,fun p h=>fR ok hk h⟩
     ·obtain ⟨n,hn,rfl⟩:=BQ.mp z
      have wn:=(cz ok).mp hn;have e1:ts[n]?=some (ts[n]'(bQ ok wn)):=BJ (bQ ok wn);have bt:shT ts n=⟨(ts[n]'(bQ ok wn)).ls,(ts[n]'(bQ ok wn)).bits,0,0⟩:=by show (⟨(ts.getD n _).ls,(ts.getD n _).bits,0,0⟩:Sh)=_; rw [dg e1]
      rw [bt];exact ⟨(ok.t n _ e1).l4,fun p h=>fc ok e1 wn h⟩
    have kno:=fun p (h:p∈os)=>e9 (ts:=ts) (ks:=ks) ok h
    have lss:(ks.map (shK ts)++(wtd ts ks os).map (shT ts)).length<=24:=by rw [BU,BF,BF]; omega
    generalize ks.map (shK ts)++(wtd ts ks os).map (shT ts)=ss at pr eb kns lss;have lsp:=BH pr;unfold ots at q;rw [<- eb] at q;generalize ppr ts ks os=pp at *;clear sL kL gt gp7 w7 gt7 wt7 s7;walk_at "rd";rename_i bl hbl;have c9:Ch [] H8 (upd H8 bl (.lst [])):=Ch.new hbl _;refine dM (xs:=sps.map V.ref) (fun i σ H'=>∃ (u5 u6 u7 u8 u13:Option V) (bps:List Addr),σ=[some (.ref tl),some (.ref kl),some (.ref ol),some (.ref wa),some (.ref sl),u5,u6,u7,u8,some (.ref td),u10,some (.ref pl),some (.ref bl),u13]/\Ch [] H8 H'/\H' bl=some (.lst (bps.map V.ref))/\Paired (BkAt .tuple H') ((ss.take i).map (shB pp)) bps) ⟨_,_,_,_,_,[],rfl,c9,af,.nil⟩ ?_ ?_ ?_
    ·rintro i σ H' hi ⟨_,_,_,_,_,_,_,c,_⟩
     exact SqL.of (c.get gs (by simp))
    ·clear c9
     rintro i z σ H' hz ⟨u5,u6,u7,u8,u13,bps,rfl,c,gb,pb⟩;obtain ⟨p,s1,rfl,es,lp,qs,_,h1,h2,ws⟩:=bq pr i z hz;obtain ⟨l4,kn⟩:=kns s1 (BO es);have h1':=c.get h1 (by simp)
     have h2':=c.get h2 (by simp)
     have ws':=ws.tu (Tu.same c);have gp':=c.get gp8 (by simp)
     have wp':=w8.tu (Tu.same c);have lq:s1.ls.length=qs.length:=by have:=BH ws; simpa using this
     have lpb:=BH pb;rw [BF,B8] at lpb;have z40:(bps.map V.ref).length<=40:=by rw [BF]; omega
     have pp3:pp.length<=300:=by omega
     rw [B0,es,show (some s1).toList=[s1] from rfl,BL];clear h1 h2 ws;walk_at "rd";refine bO (qs.map V.ref) (fun j ys σ H2=>Ch [] H' H2/\(∃ rs,ys=rs.map V.ref/\WsAt H2 (((s1.ls.take j).map (srcOf pp)).map srcK) rs)/\∃ u,σ=[u,some (.ref pl)]) (by walk_at "sz") ⟨Ch.refl _ _,⟨[],rfl,.nil⟩,_,rfl⟩ ?_ ?_ ?_
     ·rintro j ys σ H2 hj ⟨c2,⟨rs,rfl,wr⟩,_⟩
      have:=BH wr;rw [BF,BF,B8] at this;exact ⟨by rw [BF]; omega,SqL.of (c2.get h2' (by simp))⟩
     ·rintro j ys σ H2 z hz2 ⟨c2,⟨rs,rfl,wr⟩,u,rfl⟩
      obtain ⟨r,x,rfl,ex,hx⟩:=cP (ws'.tu (Tu.same c2)) j z hz2;have knx:=kn x (BO ex);have gp2:=c2.get gp' (by simp)
      have wp2:=wp'.tu (Tu.same c2);walk_at "rd";rename_i r2 H3 c3 g3;refine ⟨⟨rs++[r2],by simp,?_⟩,_,rfl⟩
      rw [B0,ex,show (some x).toList=[x] from rfl,BL,BL];exact bu (R:=fun k p=>H3 p=some (.tup (List.map kV k))) g3 (wr.tu (Tu.same c3))
     rintro ys σ H2 ⟨c2,⟨rs,rfl,wr⟩,_⟩;rw [BF,<- lq,B2] at wr;intro D hD;have cD:=c2.trans (Ch.new hD (.lst (rs.map V.ref)));have gD:(upd H2 D (.lst (rs.map V.ref))) D=some (.lst (rs.map V.ref)):=af;have wr2:=wr.tu (Tu.new (.lst (rs.map V.ref)) hD);have gb2:=cD.get gb (by simp)
     have cc:=c.trans cD;generalize upd H2 D (.lst (rs.map V.ref))=H3 at cD gD wr2 gb2 cc ⊢;clear hD c2 wr;refine ⟨D,rs.map V.ref,rfl,.inl ⟨SqL.of gD,fun tq htq=>?_⟩⟩
     walk_at "rd";rename_i T hT;have cT:=(Ch.new (W:=[]) htq (.tup (rs.map V.ref))).trans (Ch.new hT (.tup [.ref tq,.int s1.bits,.int s1.kept,.int s1.first]))
     have tu:=(Tu.same cT).trans (Tu.lst (Ch.put (o:=.lst (bps.map V.ref++[V.ref T]))) (cT.get gb2 (by simp)))
     have nT:T≠bl:=(ar (aA htq gb2) hT).symm;have tu3:Tu H' (upd (upd (upd H3 tq (.tup (rs.map V.ref))) T (.tup [.ref tq,.int s1.bits,.int s1.kept,.int s1.first])) bl (.lst (bps.map V.ref++[V.ref T]))):=(Tu.same cD).trans tu
     have ntq:tq≠bl:=(ar gb2 htq).symm;have g':(upd (upd (upd H3 tq (.tup (rs.map V.ref))) T (.tup [.ref tq,.int s1.bits,.int s1.kept,.int s1.first])) bl (.lst (bps.map V.ref++[V.ref T]))) bl=some (.lst ((bps++[T]).map V.ref)):=by rw [af,BL]; rfl
     exact ⟨g',bu (x:=shB pp s1) (y:=T) ⟨tq,rs,aB nT af,aB ntq (aA hT af),wr2.tu tu⟩ (aF (fun _ _=>BkAt.tu tu3) pb)⟩
    ·rintro σ H9 ⟨u5,u6,u7,u8,u13,bps,rfl,c,gb,pb⟩
     rw [BF,<- lsp,B2] at pb;have ho9:=c.get ho8 (by simp)
     have oo9:=oo8.tu (Tu.same c);have gp9:=c.get gp8 (by simp)
     have w9:=w8.tu (Tu.same c);have pp3:pp.length<=300:=by omega
     walk_at "rd";refine bO (ops.map V.ref) (fun j ys σ H2=>Ch [] H9 H2/\(∃ rs,ys=rs.map V.ref/\WsAt H2 (((os.take j).map (srcOf pp)).map srcK) rs)/\∃ u,σ=[u,some (.ref pl)]) (by walk_at "sz") ⟨Ch.refl _ _,⟨[],rfl,.nil⟩,_,rfl⟩ ?_ ?_ ?_
     ·rintro j ys σ H2 hj ⟨c2,⟨rs,rfl,wr⟩,_⟩
      have:=BH wr;rw [BF,BF,B8] at this;exact ⟨by rw [BF]; omega,SqL.of (c2.get ho9 (by simp))⟩
     ·rintro j ys σ H2 z hz2 ⟨c2,⟨rs,rfl,wr⟩,u,rfl⟩
      obtain ⟨r,x,rfl,ex,hx⟩:=cP (oo9.tu (Tu.same c2)) j z hz2;have knx:=kno x (BO ex);have gp2:=c2.get gp9 (by simp)
      have wp2:=w9.tu (Tu.same c2);walk_at "rd";rename_i r2 H3 c3 g3;refine ⟨⟨rs++[r2],by simp,?_⟩,_,rfl⟩
      rw [B0,ex,show (some x).toList=[x] from rfl,BL,BL];exact bu (R:=fun k p=>H3 p=some (.tup (List.map kV k))) g3 (wr.tu (Tu.same c3))
     rintro ys σ H2 ⟨c2,⟨rs,rfl,wr⟩,_⟩;rw [BF,<- lo,B2] at wr;intro D hD;walk_at "rd";rename_i R hR;have cR:=c2.trans ((Ch.new hD (.lst (rs.map V.ref))).trans (Ch.new hR (.tup [.ref bl,.ref D,.ref pl])));have cR2:=(Ch.new (W:=[]) hD (.lst (rs.map V.ref))).trans (Ch.new hR (.tup [.ref bl,.ref D,.ref pl]));exact q R bl D pl bps rs pps _ (c8.trans (c.trans cR)) af (cR.get gb (by simp)) (aF (fun _ _=>BkAt.tu (Tu.same cR)) pb) (aA hR af) (wr.tu (Tu.same cR2)) (cR.get gp9 (by simp)) (w9.tu (Tu.same cR))
end
end

section
def rIsC (K:PySem.W.Frag):List V->Hp->VK->Prop:=fun xs H Q=>∃ (x:V) (C:Addr) (t:Value) (b:Bool),xs=[x,.ref C]/\TyOf K H x t/\PySem.W.kitOne K t (.ref C)=some b/\Q (.bl b) H
theorem A0:CallR X (.builtin "isinstance") (rIsC X.K):=by
 intro pins s σ H xs us Q I r h;obtain ⟨x,C,t,b,rfl,ty,e,q⟩:=h;obtain ⟨u,v,rfl,ru,rv⟩:=vals2 r;cases rv;exact mw I ru ty e fun tk=>⟨.bl b,H,I.tok _,rfl,q⟩
theorem sD (n:Nat):∀ k:Wr,Paired (Eqv (n + 1) H) (k.map kV) (k.map kV)
 | []=>.nil
 | x :: k=>.cons (⟨.list,.inl ⟨x,rfl,rfl⟩⟩) (sD n k)
theorem iI (n:Nat):∀ {ks:List Wr}{rs qs:List Addr},(∀ k∈ks,k.length<=300)->WsAt H ks rs->WsAt H ks qs->Paired (Eqv (n + 2) H) (rs.map V.ref) (qs.map V.ref)
 | _,_,_,_,.nil,.nil=>.nil
 | k :: ks,_,_,l,.cons a r,.cons b t=>.cons (⟨.tuple,.inr ⟨_,_,_,_,rfl,rfl,a,b,sD n k,by rw [BF]; exact l k (by simp)⟩⟩) (iI n (fun x hx=>l x (by simp [hx])) r t)
theorem sE (ss:List Src):∀ k∈ss.map srcK,k.length<=300:=fun k hk=>by
 obtain ⟨s,_,rfl⟩:=BQ.mp hk;exact (by decide:2<=300)
theorem A1 (pp:List Plc):∀ k∈pp.map plK,k.length<=300:=fun k hk=>by
 obtain ⟨s,_,rfl⟩:=BQ.mp hk;exact (by decide:2<=300)
theorem sF:∀ {bs:List Bk}{rs qs:List Addr},(∀ b∈bs,b.ss.length<=4)->Paired (BkAt .tuple H) bs rs->Paired (BkAt .tuple H) bs qs->Paired (Eqv 4 H) (rs.map V.ref) (qs.map V.ref)
 | [],_,_,_,.nil,.nil=>.nil
 | b :: bs,_,_,l,.cons a r,.cons c t=>by
  obtain ⟨lp,ps,h1,h2,wp⟩:=a;obtain ⟨lq,qs,g1,g2,ws⟩:=c;have g2:H lq=some (.tup (qs.map V.ref)):=g2;have h2:H lp=some (.tup (ps.map V.ref)):=h2;have e:=BH wp;have l4:=l b (by simp)
  rw [BF] at e;exact .cons (⟨.tuple,.inr ⟨_,_,_,_,rfl,rfl,h1,g1,.cons (⟨.tuple,.inr ⟨_,_,_,_,rfl,rfl,h2,g2,iI 0 (sE _) wp ws,by rw [BF]; omega⟩⟩) (.cons (⟨.list,.inl ⟨.inl _,rfl,rfl⟩⟩) (.cons (⟨.list,.inl ⟨.inl _,rfl,rfl⟩⟩) (.cons (⟨.list,.inl ⟨.inl _,rfl,rfl⟩⟩) .nil))),(by decide:4<=300)⟩⟩) (sF (fun x hx=>l x (by simp [hx])) r t)
structure FdAt (CP:Addr) (H:Hp) (F pk dx bt ot pl:Addr) (ins:Nat) (bs:List Bk) (os:List Src) (pp:List Plc):Prop where
 f:H F=some (.tup [.ref pk,.ref pl])
 p:H pk=some (.ins CP dx (fldsP ins bt ot))
 k:PkT H bt ot bs os
 l:∃ pps,H pl=some (.lst (pps.map V.ref))/\WsAt H (pp.map plK) pps
theorem FdAt.ch{H:Hp}{F pk:Addr}{ins:Nat}{os:List Src} (s:FdAt CP H F pk dx bt ot pl ins bs os pp) (c:Ch [] H H'):FdAt CP H' F pk dx bt ot pl ins bs os pp :=
 ⟨c.get s.f (by simp),c.get s.p (by simp),s.k.tu (Tu.same c),let ⟨a,b,d⟩:=s.l; ⟨a,c.get b (by simp),d.tu (Tu.same c)⟩⟩
structure DuAt (H:Hp) (R bl sl pl:Addr) (bs:List Bk) (os:List Src) (pp:List Plc):Prop where
 r:H R=some (.tup [.ref bl,.ref sl,.ref pl])
 b:∃ ps,H bl=some (.lst (ps.map V.ref))/\Paired (BkAt .tuple H) bs ps
 s:∃ ps,H sl=some (.lst (ps.map V.ref))/\WsAt H (os.map srcK) ps
 l:∃ ps,H pl=some (.lst (ps.map V.ref))/\WsAt H (pp.map plK) ps
theorem DuAt.ch {H:Hp}{R:Addr}{os:List Src} (s:DuAt H R bl sl pl bs os pp) (c:Ch [] H H'):DuAt H' R bl sl pl bs os pp :=
 ⟨c.get s.r (by simp),let ⟨a,b,d⟩:=s.b; ⟨a,c.get b (by simp),aF (fun _ _=>BkAt.tu (Tu.same c)) d⟩,let ⟨a,b,d⟩:=s.s; ⟨a,c.get b (by simp),d.tu (Tu.same c)⟩,let ⟨a,b,d⟩:=s.l; ⟨a,c.get b (by simp),d.tu (Tu.same c)⟩⟩
section
variable {P:Program}{w:World}{K:PySem.W.Frag}{mg:Str->Option Value}{base:Heap}{f:Addr}{fd:FuncData}{k:Nat}
theorem gl51:AG (defScope (top 51)) ["isinstance", "Pack", "len", "tuple", "_law_same"]:=⟨∅⟩
theorem av51:AF (defScope (top 51)) ["_law_found", "_law_ins", "_law_due", "_law_pack", "_law_paper"]:=⟨∅⟩
def spRight (CP:Addr):Sp:=fun vs H Q _=>∃ (F pk dx bt ot pl R bl sl pl2:Addr) (ins:Nat) (bs:List Bk) (os:List Src) (pp:List Plc),vs=[.ref F,.int (ins:Int),.ref R]/\FdAt CP H F pk dx bt ot pl ins bs os pp/\DuAt H R bl sl pl2 bs os pp/\(∀ b∈bs,b.ss.length<=4)/\bs.length<=40/\os.length<=40/\pp.length<=40/\∀ H',Ch [] H H'->Q (.bl true) H'
theorem scRight:FnScope ["_law_found", "_law_ins", "_law_due", "_law_pack", "_law_paper"] ["_law_found", "_law_ins", "_law_due"] (defScope (top 51)):=⟨rfl,rfl,rfl,∅,rfl,∅,∅⟩
theorem A2 (F:Fun K "_law_pair_right" "_law_pair_right" (top 51) f fd) (D_law_same:DefOk P w K mg base CX0 k "_law_same" ["_law_found", "_law_due"] (spSame 5)) (m_Pack:mg "Pack" = some (.ref CP)) (cl:Cls K CP) (nI:NoAttr K CP "ins") (nB:NoAttr K CP "blocks") (nO:NoAttr K CP "outs")
  (xcl:PySem.W.findIn K (.ref CP) "__class__" = some (some (.builtin "object.__class__"))) (xsg:PySem.W.specialIn K (.builtin "object.__class__") "__get__" = some (some (.builtin "getset_descriptor.__get__"))) (xtk:PySem.W.takesIn K (.builtin "object.__class__")=some true) (xmo:PySem.W.mroIn K CP (.type "object")=some true) (wC:PySem.W.kitOne K (.ref CP) (.ref CP)=some true) (z_isinstance:mg "isinstance" = none) (z_tuple:mg "tuple" = none) (z_len:mg "len" = none):FnOk P w K mg base CX0 (k + 1) f fd ["_law_found", "_law_ins", "_law_due"] (spRight CP):=by
 have nd:=scRight.nd;refine F.ok scRight (fun vs H Q E h=>by obtain ⟨F,pk,dx,bt,ot,pl,R,bl,sl,pl2,ins,bs,os,pp,rfl,_⟩:=h; rfl) (fun cdv A outer s H vs Q E hr h=>?_)
 obtain ⟨F,pk,dx,bt,ot,pl,R,bl,sl,pl2,ins,bs,os,pp,rfl,fa,da,b4,lb,lo,lp,q⟩:=h;obtain ⟨hF,hpk,pkt,⟨pps,hpl,wp⟩⟩:=fa;obtain ⟨bps,hbt,pb⟩:=pkt.b;obtain ⟨ops,hot,po⟩:=pkt.o;obtain ⟨hR,⟨bqs,hbl,qb⟩,⟨sqs,hsl,qs⟩,⟨lqs,hpl2,ql⟩⟩:=da;have tyx:TyOf K H (.ref pk) (.ref CP):=.ins hpk cl xcl xsg xtk xmo;have f1:=@fp_i ins bt ot;have f2:=@fp_b ins bt ot;have f3:=@fp_o ins bt ot;have lb2:=BH pb;have lo2:=BH po;have lp2:=BH wp;rw [BF] at lo2 lp2;refine ⟨_,(Pr.h (ah (aC (bz (bg (aX (aO (aq bI (gl51.g 0 rfl) z_isinstance bA (aa (qv av51 0 rfl) (aa (bw (v:=.ty "tuple") (gl51.g 3 rfl) z_tuple bD rfl bE bF) ab)) bB bC))) (bg (ax cx (aq aJ (gl51.g 2 rfl) z_len BY (aa (qv av51 0 rfl) ab ae) aK aL) ag (nomark _)) (bJ (aX (aO (aq A0 (gl51.g 0 rfl) z_isinstance bA (aa (ak az (qv av51 0 rfl) ag (fun _ _=>rfl)) (aa (nh (v:=.ref _) (gl51.g 1 rfl) m_Pack rfl rf) ab)) bB bC))))))) (ai (au bh)) aE) (ah (eS (qv av51 0 rfl) (cN rfl (aw (aj (i:=3) nd rfl (av51.l 3 rfl)) (aw (aj (i:=4) nd rfl (av51.l 4 rfl)) ba)))) (ah (aC (bz (bg (aX (aO (ao D_law_same hr (gl51.g 4 rfl) pass0 (aa (aH (qv av51 3 rfl) rfl) (aa (qv av51 1 rfl) ab ae) bH) ff))) (bJ (aX (aO (ao D_law_same hr (gl51.g 4 rfl) pass0 (aa (aH (qv av51 3 rfl) rfl) (aa (aZ cQ (gl51.g 3 rfl) z_tuple bD (aa (ak az (qv av51 2 rfl) ag (fun _ _=>rfl)) ab aS) bE bF) ab bf) bH) ff)))))) (ai (au bh)) aE) (ai (au (bY (ao D_law_same hr (gl51.g 4 rfl) pass0 (aa (aH (qv av51 3 rfl) rfl) (aa (aZ cQ (gl51.g 3 rfl) z_tuple bD (aa (ak az (qv av51 2 rfl) ag (fun _ _=>rfl)) ab aS) bE bF) ab bf) bH) ff) (cJ (ao D_law_same hr (gl51.g 4 rfl) pass0 (aa (qv av51 4 rfl) (aa (ak az (qv av51 2 rfl) ag (fun _ _=>rfl)) ab aS) ae) ff))))))))),?_⟩
 (try dsimp only [cxOf])
 walk_at "rd";refine ⟨⟨⟨.list,.inl ⟨.inl _,rfl,rfl⟩⟩⟩,fun H1 c1=>?_⟩
 have hpk1:=c1.get hpk (by simp)
 have hR1:=c1.get hR (by simp)
 have hbl1:=c1.get hbl (by simp)
 walk_at "rd";rename_i T hT;have cT:=c1.trans (Ch.new hT (.tup (bqs.map V.ref)));have gT:(upd H1 T (.tup (bqs.map V.ref))) T=some (.tup (bqs.map V.ref)):=af;have e1:EqvS 5 (upd H1 T (.tup (bqs.map V.ref))) (.ref bt) (.ref T):=⟨⟨.tuple,.inr ⟨_,_,_,_,rfl,rfl,cT.get hbt (by simp),gT,sF b4 (dv cT pb) (aF (fun _ _ z=>BkAt.tu (Tu.same cT) z) qb),by rw [BF]; omega⟩⟩⟩
 refine ⟨e1,fun H2 c2=>?_⟩
 have c02:=cT.trans c2;have hpk2:=c02.get hpk (by simp)
 have hR2:=c02.get hR (by simp)
 have hsl2:=c02.get hsl (by simp)
 clear e1 gT cT hT c1 c2 hpk1 hR1 hbl1;walk_at "rd";rename_i T2 hT2;have cT:=c02.trans (Ch.new hT2 (.tup (sqs.map V.ref)));have gT:(upd H2 T2 (.tup (sqs.map V.ref))) T2=some (.tup (sqs.map V.ref)):=af;have e1:EqvS 5 (upd H2 T2 (.tup (sqs.map V.ref))) (.ref ot) (.ref T2):=⟨⟨.tuple,.inr ⟨_,_,_,_,rfl,rfl,cT.get hot (by simp),gT,iI 2 (sE _) (po.tu (Tu.same cT)) (qs.tu (Tu.same cT)),by rw [BF]; omega⟩⟩⟩
 refine ⟨e1,fun H3 c3=>?_⟩
 have c03:=cT.trans c3;have hR3:=c03.get hR (by simp)
 have e3:EqvS 5 H3 (.ref pl) (.ref pl2):=⟨⟨.list,.inr ⟨_,_,_,_,rfl,rfl,c03.get hpl (by simp),c03.get hpl2 (by simp),iI 2 (A1 _) (wp.tu (Tu.same c03)) (ql.tu (Tu.same c03)),by rw [BF]; omega⟩⟩⟩
 clear e1 gT cT hT2 c3 hpk2 hR2 hsl2;walk_at "rd";rename_i H4 c4;exact q _ (c03.trans c4)
end
end

section
theorem A3 {l:List Bool}{x:Bool} (h:m < l.length):(l++[x]).getD m false=l.getD m false:=by
 rw [Cu,Cu,CM h]
theorem lu (h:m < i):∀ {j:Nat},i<=j->j<=ts.length->(upT ts row kept j).getD m false=(upT ts row kept i).getD m false
 | 0,h1,_=>by omega
 | j + 1,h1,h2=>by
  by_cases e:i=j + 1
  ·rw [e]
  ·have ej:ts[j]?=some ts[j]:=BJ (by omega)
   have l:=fO (ts:=ts) (row:=row) (kept:=kept) (i:=j) (by omega)
   rw [hV ej,A3 (by omega)]
   exact lu h (by omega) (by omega)
theorem A4{a b:Nat} (h:p.2 < lim6 a b n p.1) (hn:n<=ts.length):hdv row kept (upT ts row kept n) p=hdv row kept (upT ts row kept ts.length) p:=by
 obtain ⟨x,m⟩:=p;cases x with
 | i=>rfl
 | k=>rfl
 | t=>exact (lu (show m < n from h) hn (BI _)).symm
theorem sG {ins:Nat}{ks:List Kp}{os:List Plc} (ok:Okd ins ts ks os) (e:ts[n]?=some t):(upT ts row kept ts.length).getD n false=tbit t.bits (t.ls.map (hdv row kept (upT ts row kept ts.length))):=by
 have hn:=(BX.mp e).1;have l:=fO (ts:=ts) (row:=row) (kept:=kept) (i:=n) (by omega)
 rw [lu (show n < n + 1 by omega) (show n + 1<=ts.length by omega) (BI _),hV e,Cu,CV (by omega),l,Nat.sub_self]
 show tbit _ _=_;rw [List.map_congr_left fun p hp=>A4 ((ok.t n t e).lo p hp) (by omega)]
section
variable {ins:Nat}{ts:List Tb}{ks:List Kp}{os:List Plc}
theorem sH (ok:Okd ins ts ks os) {n:Nat} (e:ts[n]?=some t):0<=t.bits/\t.bits < room t.ls.length:=⟨(ok.t n t e).b0,(ok.t n t e).b1⟩
theorem A5 (ok:Okd ins ts ks os) {k:Kp} (hk:k∈ks):0<=(ktab ts k.pl).bits/\(ktab ts k.pl).bits < room (ktab ts k.pl).ls.length:=by
 have o:=ok.k k hk;obtain ⟨f,⟨x,n⟩⟩:=k;cases x with
 | t =>
  have e:ts[n]?=some (ts[n]'o):=BJ o;rw [fP e];exact sH ok e
 | i=>exact (by decide:(0:Int)<=2/\(2:Int) < room 1)
 | k=>exact (by decide:(0:Int)<=2/\(2:Int) < room 1)
theorem ly (h:∀ p∈ls,Kn pp p) (l:∀ p∈ls,p.1=.i->p.2 < ins):∀ s∈ls.map (srcOf pp),s.2 < lim ins pp.length s.1:=fun s hs=>by
 obtain ⟨p,hp,rfl⟩:=BQ.mp hs;exact Ab (h p hp) (l p hp)
theorem lA {a b c:Nat} (h:p.2 < lim6 a b c p.1):p.1=.i->p.2 < a:=fun e=>by rw [e] at h; exact h
theorem A6 (ok:Okd ins ts ks os) {q:Plc} (m:q∈ppr ts ks os):(blk ts ks (ppr ts ks os) q).ok ins (ppr ts ks os).length:=by
 obtain ⟨x,n⟩:=q;cases x with
 | i=>exact absurd m fQ
 | k =>
  have e:ks[n]?=some (ks[n]'(dw.mp m)):=BJ (dw.mp m);have mk:=BO e;have r:=A5 ok mk;have b:=bi01 (ks[n]'(dw.mp m)).f;rw [eJ e];exact ⟨by rw [BF]; exact dX ok mk,ly (fun p h=>fR ok mk h) (fun p h=>lA (km ok mk h)),r.1,by rw [BF]; exact r.2,.inr rfl,b.1,by show bi _<=1; omega⟩
 | t =>
  have wn:=(cz ok).mp (e7.mp m);have e:ts[n]?=some (ts[n]'(bQ ok wn)):=BJ (bQ ok wn);have r:=sH ok e;rw [kR e];exact ⟨by rw [BF]; exact (ok.t n _ e).l4,ly (fun p h=>fc ok e wn h) (fun p h=>lA ((ok.t n _ e).lo p h)),r.1,by rw [BF]; exact r.2,.inl rfl,Int.le_refl _,Int.le_refl _⟩
theorem iJ (ok:Okd ins ts ks os):∀ b∈bls ts ks os,b.ok ins (bls ts ks os).length:=fun b hb=>by
 rw [dW];obtain ⟨q,m,rfl⟩:=BQ.mp hb;exact A6 ok m
theorem sI (ok:Okd ins ts ks os):∀ s∈ots ts ks os,s.2 < lim ins (bls ts ks os).length s.1:=by
 rw [dW];exact ly (fun p h=>e9 ok h) (fun p h=>lA (ok.o p h))
theorem sJ (h:j < (bls ts ks os).length):∃ q,(ppr ts ks os)[j]?=some q/\(bls ts ks os)[j]?=some (blk ts ks (ppr ts ks os) q):=by
 rw [dW] at h;exact ⟨_,BJ h,fS (BJ h)⟩
theorem lB (ok:Okd ins ts ks os) (h:loB (bls ts ks os) j=true):∃ n t,(ppr ts ks os)[j]?=some (.t,n)/\ts[n]?=some t/\Wn ts ks os n/\(bls ts ks os)[j]?=some ⟨t.ls.map (srcOf (ppr ts ks os)),t.bits,0,0⟩:=by
 have hj:j < (bls ts ks os).length:=by
  refine Dm fun z=>?_
  unfold loB at h;rw [Dp (by omega)] at h
  cases h
 obtain ⟨⟨x,n⟩,e,eb⟩:=sJ hj;have m:=BO e;cases x with
 | i=>exact absurd m fQ
 | k =>
  have e2:ks[n]?=some (ks[n]'(dw.mp m)):=BJ (dw.mp m);rw [eF eb,eJ e2] at h;cases h
 | t =>
  have wn:=(cz ok).mp (e7.mp m);have e2:ts[n]?=some (ts[n]'(bQ ok wn)):=BJ (bQ ok wn);rw [kR e2] at eb;exact ⟨n,_,e,e2,wn,eb⟩
theorem sM (ok:Okd ins ts ks os):Acy (looseOf (bls ts ks os)) (lsOf (bls ts ks os)):=by
 refine ⟨fun j=>((ppr ts ks os).getD j (.i,0)).2,fun j hj s hs=>?_⟩
 have sl:=gI hs ins (iJ ok);refine ⟨sl,?_⟩;obtain ⟨n,t,e1,e2,wn,e3⟩:=lB ok (Cb.mp hj).2;obtain ⟨n2,t2,g1,g2,wn2,g3⟩:=lB ok (Cb.mp sl).2;rw [jx e3] at hs;obtain ⟨sr,hs1,rfl⟩:=BQ.mp hs;obtain ⟨hm,hb⟩:=Cb.mp hs1;obtain ⟨p,hp,rfl⟩:=BQ.mp hm;have kn:=fc (os:=os) ok e2 wn hp;have sb:(srcOf (ppr ts ks os) p).1=true:=by rw [Bool.and_eq_true] at hb; exact hb.1
 have ep:plOf (ppr ts ks os) (srcOf (ppr ts ks os) p)=p:=qS kn;unfold plOf at ep;rw [if_pos sb,dg g1] at ep;subst ep;show ((ppr ts ks os).getD _ _).2 < ((ppr ts ks os).getD _ _).2;rw [dg g1,dg e1];exact (ok.t n t e2).lo _ hp
theorem sN (ok:Okd ins ts ks os):keptOf (bls ts ks os)=List.range ks.length:=by
 refine qQ (List.pairwise_lt_range.filter _) List.pairwise_lt_range fun n=>?_
 have lp:(bls ts ks os).length=ks.length + (wtd ts ks os).length:=by rw [dW]; unfold ppr; rw [BU,BF,BF,Cy]
 unfold keptOf;rw [Cb,Cj,Cj]
 constructor
 ·rintro ⟨h,hk⟩
  obtain ⟨⟨x,m⟩,e,eb⟩:=sJ h;refine Dm fun z=>?_
  unfold ppr at e;rw [CV (by rw [BF,Cy]; omega),BN] at e
  obtain ⟨m',_,e'⟩:=B5.mp e;cases e';rw [fM eb] at hk;cases hk
 ·intro h
  have e:(ppr ts ks os)[n]?=some (.k,n):=by
   unfold ppr;rw [CM (by rw [BF,Cy]; exact h),BN,List.getElem?_range h]; rfl
  have e2:ks[n]?=some ks[n]:=BJ h;refine ⟨by omega,?_⟩
  rw [fM (fS e),eJ e2];rfl
theorem lC (h:n < ks.length):(ppr ts ks os)[n]?=some (.k,n):=by
 unfold ppr;rw [CM (by rw [BF,Cy]; exact h),BN,List.getElem?_range h]; rfl
noncomputable def vOf (ts:List Tb) (ks:List Kp) (os:List Plc) (row kept:List Bool) (j:Nat):Bool:=match (ppr ts ks os)[j]? with
 | some p=>hdv row kept (upT ts row kept ts.length) p
 | none=>false
theorem lE (e:(ppr ts ks os)[j]?=some p):vOf ts ks os row kept j=hdv row kept (upT ts row kept ts.length) p:=by unfold vOf; rw [e]
theorem A7 (h:Kn (ppr ts ks os) p):srcV row (vOf ts ks os row kept) (srcOf (ppr ts ks os) p)=hdv row kept (upT ts row kept ts.length) p:=by
 obtain ⟨x,n⟩:=p;have at_:∀ q:Plc,q∈ppr ts ks os->vOf ts ks os row kept ((ppr ts ks os).idxOf q)=hdv row kept (upT ts row kept ts.length) q:=fun q m=>lE (by rw [BJ (De m),List.getElem_idxOf])
 cases x with
 | i=>rfl
 | k=>exact at_ _ (h.resolve_left (by intro z; cases z))
 | t=>exact at_ _ (h.resolve_left (by intro z; cases z))
theorem lF (h:∀ p∈ls,Kn (ppr ts ks os) p):(ls.map (srcOf (ppr ts ks os))).map (srcV row (vOf ts ks os row kept))=ls.map (hdv row kept (upT ts row kept ts.length)):=by
 rw [CA];exact List.map_congr_left fun p hp=>A7 (h p hp)
theorem A8 (ok:Okd ins ts ks os):(ots ts ks os).map (srcV row (vOf ts ks os row kept))=os.map (hdv row kept (upT ts row kept ts.length)):=lF fun p h=>e9 ok h
theorem A9 (ok:Okd ins ts ks os) (hk:∀ n,n < ks.length->kv n=kept.getD n false):Sol (bls ts ks os) row kv (vOf ts ks os row kept):=by
 refine ⟨fun n hn=>?_,fun j b e k0=>?_⟩
 ·rw [sN ok] at hn
  have hn:=Cj.mp hn;rw [lE (lC hn),hk n hn];rfl
 ·have lo:loB (bls ts ks os) j=true:=by rw [eF e,k0]; rfl
  obtain ⟨n,t,e1,e2,wn,e3⟩:=lB ok lo;rw [e3] at e;cases e;rw [lE e1];show (upT ts row kept ts.length).getD n false=tbit _ _;rw [sG ok e2,lF fun p h=>fc ok e2 wn h]
theorem tbit2 (x:Bool):tbit 2 [x]=x:=by cases x <;> decide
theorem Ba (ok:Okd ins ts ks os){k:Kp} (e:ks[n]?=some k):nxV (bls ts ks os) row (vOf ts ks os row kept) n=hdv row kept (upT ts row kept ts.length) k.pl:=by
 have hn:=(BX.mp e).1;have mk:=BO e;rw [qq (fS (lC hn)),eJ e];show tbit _ ((_:List Src).map _)=_;rw [lF fun p h=>fR ok mk h]
 have o:=ok.k k mk;obtain ⟨f,⟨x,m⟩⟩:=k;cases x with
 | t =>
  have e2:ts[m]?=some (ts[m]'o):=BJ o;show tbit (ktab ts (.t,m)).bits ((ktab ts (.t,m)).ls.map _)=(upT ts row kept ts.length).getD m false;rw [fP e2,sG ok e2]
 | i=>exact tbit2 _
 | k=>exact tbit2 _
theorem Bb{k:Kp} (e:ks[n]?=some k):fsB (bls ts ks os) n=k.f:=by
 rw [qk (fS (lC (BX.mp e).1)),eJ e];show decide (bi k.f=1)=k.f;cases k.f <;> decide
theorem sO (ok:Okd ins ts ks os) (l:kept.length=ks.length) (hk:∀ n,n < ks.length->kv n=kept.getD n false):(keptOf (bls ts ks os)).map kv=kept:=by
 rw [sN ok];refine List.ext_getElem? fun i=>?_
 rw [BN]
 by_cases h:i < ks.length
 ·rw [List.getElem?_range h,BJ (by omega:i < kept.length)]
  show some (kv i)=_;rw [hk i h,Cu,BJ (by omega:i < kept.length)]; rfl
 ·rw [Dp (by rw [Cy]; omega),Dp (by omega)]; rfl
end
end

section
theorem sQ {ins:Nat} (ok:Okd ins ts ks os):AOk ins (bls ts ks os) (ots ts ks os) :=
 ⟨iJ ok,sI ok,sM ok,by have:=e8 (ts:=ts) (ks:=ks) (os:=os); have:=dW (ts:=ts) (ks:=ks) (os:=os); have:=ok.lt; have:=ok.lk; omega,by unfold ots; rw [BF]; have:=ok.lo; omega⟩
theorem Scr.ob{H:Hp}{y C d:Addr}{fs:List (Str × V)} (s:Scr K H a ns) (c:Ch [y] H H') (hy:H y=some (.ins C d fs)):Scr K H' a ns:=by
 obtain ⟨l,h⟩:=s;refine ⟨l,?_⟩;rcases h with ⟨o,h⟩ | h
 ·exact .inl ⟨o,c.get h (by simpa using aI h hy (by intro z; cases z))⟩
 ·exact .inr h
theorem DQ.ob{H:Hp}{y C d:Addr}{fs:List (Str × V)} (s:DQ K H0 H a b ns c) (e:Ch [y] H H') (hy:H y=some (.ins C d fs)) (f:H0 y=none):DQ K H0 H' a b ns c :=
 ⟨fun p o h n=>e.get (s.ch p o h n) (fun z=>by rw [B6.mp z,f] at h; cases h),Scr.ob s.hS e hy,e.get s.hb (by simpa using aI s.hb hy (by intro z; cases z))⟩
theorem PlP.ob2{H:Hp}{ins:Nat}{os:List Src}{y1 C1 d1:Addr}{fs:List (Str × V)} (s:PlP C H y dx ins bt ot ol kd bs os order kv) (e:Ch [y1] H H') (h1:H y1=some (.ins C1 d1 fs)) (n:y≠y1):PlP C H' y dx ins bt ot ol kd bs os order kv :=
 ⟨e.get s.ob (by simpa using n),s.pk.tu (Tu.ch e h1 (fun _ z=>by cases z)),e.get s.od (by simpa using aI s.od h1 (by intro z; cases z)),e.get s.kd (by simpa using aI s.kd h1 (by intro z; cases z))⟩
theorem PlP.lst{H:Hp}{ins:Nat}{os:List Src}{b:Addr}{xs:List V} (s:PlP C H y dx ins bt ot ol kd bs os order kv) (e:Ch [b] H H') (hb:H b=some (.lst xs)) (n:ol≠b):PlP C H' y dx ins bt ot ol kd bs os order kv :=
 ⟨e.get s.ob (by simpa using aI s.ob hb (by intro z; cases z)),s.pk.tu (Tu.lst e hb),e.get s.od (by simpa using n),e.get s.kd (by simpa using aI s.kd hb (by intro z; cases z))⟩
theorem PlP.new{H:Hp}{ins:Nat}{os:List Src} (s:PlP C H y dx ins bt ot ol kd bs os order kv) (e:Ch [] H H'):PlP C H' y dx ins bt ot ol kd bs os order kv :=
 ⟨e.get s.ob (by simp),s.pk.tu (Tu.same e),e.get s.od (by simp),e.get s.kd (by simp)⟩
theorem PlAt.ob2{H:Hp}{ins:Nat}{kl:Addr}{y1 C1 d1:Addr}{fs:List (Str × V)} (s:PlAt C H y ins tt kt ot kl ts ks os kept) (e:Ch [y1] H H') (h1:H y1=some (.ins C1 d1 fs)) (n:y≠y1):PlAt C H' y ins tt kt ot kl ts ks os kept :=
 ⟨let ⟨d,h⟩:=s.ob; ⟨d,e.get h (by simpa using n)⟩,s.tp.tu (Tu.ch e h1 (fun _ z=>by cases z)),e.get s.kl (by simpa using aI s.kl h1 (by intro z; cases z)),s.kn⟩
theorem PlAt.lst{H:Hp}{ins:Nat}{kl:Addr}{b:Addr}{xs:List V} (s:PlAt C H y ins tt kt ot kl ts ks os kept) (e:Ch [b] H H') (hb:H b=some (.lst xs)) (n:kl≠b):PlAt C H' y ins tt kt ot kl ts ks os kept :=
 ⟨let ⟨d,h⟩:=s.ob; ⟨d,e.get h (by simpa using aI h hb (by intro z; cases z))⟩,s.tp.tu (Tu.lst e hb),e.get s.kl (by simpa using n),s.kn⟩
theorem PlAt.new{H:Hp}{ins:Nat}{kl:Addr} (s:PlAt C H y ins tt kt ot kl ts ks os kept) (e:Ch [] H H'):PlAt C H' y ins tt kt ot kl ts ks os kept :=
 ⟨let ⟨d,h⟩:=s.ob; ⟨d,e.get h (by simp)⟩,s.tp.tu (Tu.same e),e.get s.kl (by simp),s.kn⟩
end

section
local macro_rules | `(tactic| walk_at "user")=>`(tactic| first
 | (apply PlP.new; (focus with_reducible assumption); (focus walk_at "ch"))
 | (apply PlAt.new; (focus with_reducible assumption); (focus walk_at "ch")))
structure Box (Pd:Prop):Prop where
 h:Pd
theorem fh (bs:List Bool):ScaL (bs.map bV):=⟨fun x hx=>by
 obtain ⟨b,_,rfl⟩:=BQ.mp hx;exact .inl ⟨_,rfl⟩⟩
structure PS (K:PySem.W.Frag) (CT CK:Addr) (H0 H:Hp) (a b:Addr) (ns:List Int) (c:Int) (y1 y2 d2:Addr) (ins:Nat) (tt kt ot:Addr) (ts:List Tb) (ks:List Kp) (os:List Plc) (bt ot' ol:Addr) (order:List Nat):Prop where
 d:DQ K H0 H a b ns c
 f1:H0 y1=none
 f2:H0 y2=none
 n:y2≠y1
 no:ol≠b
 ex:∃ (kl kd:Addr) (kept:List Bool) (kv:Nat->Bool),PlAt CT H y1 ins tt kt ot kl ts ks os kept/\PlP CK H y2 d2 ins bt ot' ol kd (bls ts ks os) (ots ts ks os) order kv/\(∀ n,n < ks.length->kv n=kept.getD n false)/\kl≠b
section
variable {K:PySem.W.Frag}{CT CK:Addr}{H0 H H':Hp}{a b:Addr}{ns:List Int}{c c':Int}{y1 y2 d2:Addr}{ins:Nat}{tt kt ot:Addr}{ts:List Tb}{ks:List Kp}{os:List Plc}{bt ot' ol:Addr}{order:List Nat}
theorem PS.new (s:PS K CT CK H0 H a b ns c y1 y2 d2 ins tt kt ot ts ks os bt ot' ol order) (e:Ch [] H H'):PS K CT CK H0 H' a b ns c y1 y2 d2 ins tt kt ot ts ks os bt ot' ol order :=
 ⟨s.d.new e,s.f1,s.f2,s.n,s.no,let ⟨kl,kd,kept,kv,p1,p2,h,n⟩:=s.ex; ⟨kl,kd,kept,kv,p1.new e,p2.new e,h,n⟩⟩
theorem PS.bump (s:PS K CT CK H0 H a b ns c y1 y2 d2 ins tt kt ot ts ks os bt ot' ol order) (d:DQ K H H' a b ns c'):PS K CT CK H0 H' a b ns c' y1 y2 d2 ins tt kt ot ts ks os bt ot' ol order :=
 ⟨s.d.trans d,s.f1,s.f2,s.n,s.no,let ⟨kl,kd,kept,kv,p1,p2,h,n⟩:=s.ex; ⟨kl,kd,kept,kv,p1.lst d.ch s.d.hb n,p2.lst d.ch s.d.hb s.no,h,n⟩⟩
end
section
variable {P:Program}{w:World}{K:PySem.W.Frag}{mg:Str->Option Value}{base:Heap}{f:Addr}{fd:FuncData}{k:Nat}
theorem Bd:Nd "TablePlayer" := ∅
theorem Bh:Nd "PackPlayer" := ∅
theorem Bi:Nd "_law_some_bits" := ∅
theorem av52:AF (defScope (top 52)) ["_law_script", "_law_at", "_law_tables", "_law_pack", "_law_many", "_law_one", "_law_other", "_law_k", "_law_row"]:=⟨∅⟩
theorem gl52:AG (defScope (top 52)) ["TablePlayer", "PackPlayer", "range", "_law_some_bits", "list"]:=⟨∅⟩
def spPld (K:PySem.W.Frag) (C CP:Addr):Sp:=fun vs H Q _=>∃ (a b:Addr) (ns:List Int) (c:Int) (x tt kt ot pk dk bt ot':Addr) (ins many:Nat) (ts:List Tb) (ks:List Kp) (os:List Plc),vs=[.ref a,.ref b,.ref x,.ref pk,.int (many:Int)]/\Scr K H a ns/\H b=some (.lst [.int c])/\0<=c/\c < 2 ^ 45/\TlAt C H x ins tt kt ot ts ks os/\Okd ins ts ks os/\H pk=some (.ins CP dk (fldsP ins bt ot'))/\PkT H bt ot' (bls ts ks os) (ots ts ks os)/\many<=8/\∀ c' H',DQ K H H' a b ns c'->c<=c'->c'<=c + 1000->Q (.bl true) H'
theorem scPld:FnScope ["_law_script", "_law_at", "_law_tables", "_law_pack", "_law_many", "_law_one", "_law_other", "_law_k", "_law_row"] ["_law_script", "_law_at", "_law_tables", "_law_pack", "_law_many"] (defScope (top 52)):=⟨rfl,rfl,rfl,∅,rfl,∅,∅⟩
theorem Bj {CT CK:Addr} (F:Fun K "_law_played" "_law_played" (top 52) f fd) (clP:Cls K CP) (pI:NoAttr K CP "ins") (D_law_some_bits:DefOk P w K mg base CX0 (k + 1) "_law_some_bits" ["_law_script", "_law_at", "_law_many"] (spBits K)) (MTablePlayer_beat:MethOk P w K mg base CX0 (k + 1) CT "beat" ["self", "row"] (spTbt CT)) (MTablePlayer_held:MethOk P w K mg base CX0 (k + 1) CT "held" ["self"] (spHeld CT)) (MPackPlayer_beat:MethOk P w K mg base CX0 (k + 1) CK "beat" ["self", "row"] (spBt CK)) (MPackPlayer_held:MethOk P w K mg base CX0 (k + 1) CK "held" ["self"] (spHd CK)) (MkTablePlayer:MakeOk P w K mg base CX0 k CT "TablePlayer" ["self", "tables"] (spPl C CT)) (MkPackPlayer:MakeOk P w K mg base CX0 k CK "PackPlayer" ["self", "pack"] (spPP CP CK)) (z_range:mg "range" = none) (z_list:mg "list" = none):FnOk P w K mg base CX0 (k + 2) f fd ["_law_script", "_law_at", "_law_tables", "_law_pack", "_law_many"] (spPld K C CP):=by
 have nd:=scPld.nd;refine F.ok scPld (fun vs H Q E h=>by obtain ⟨a,b,ns,c,x,tt,kt,ot,pk,dk,bt,ot',ins,many,ts,ks,os,rfl,_⟩:=h; rfl) (fun cdv A outer s H vs Q E hr h=>?_)
 obtain ⟨a,b,ns,c,x,tt,kt,ot,pk,dk,bt,ot',ins,many,ts,ks,os,rfl,hS,hb,h0,h1,tl,ok,hpk,pkt,m8,q⟩:=h;have hrm:=hr;have bx:Box (Scr K H a ns):=⟨hS⟩;clear hS;have k12:=ok.lk;refine ⟨_,(Pr.h (ah (ay (i:=5) nd rfl (av52.l 5 rfl) (gu MkTablePlayer hrm (gl52.g 0 rfl) pass0 (aa (qv av52 2 rfl) ab ae) Bd)) (ah (ay (i:=6) nd rfl (av52.l 6 rfl) (gu MkPackPlayer hrm (gl52.g 1 rfl) pass0 (aa (qv av52 3 rfl) ab ae) Bh)) (ah (aC (ax (jd hr.units) (gr (qv av52 5 rfl) MTablePlayer_held hr pass0) (gr (qv av52 6 rfl) MPackPlayer_held hr pass0) (nomark _)) (ai (au bh)) aE) (ah (bK Ci rfl (cV (gl52.g 2 rfl) z_range (aa (qv av52 4 rfl) ab ae)) (aj (i:=7) nd rfl (av52.l 7 rfl)) (ah (ay (i:=8) nd rfl (av52.l 8 rfl) (ao D_law_some_bits hr (gl52.g 3 rfl) pass0 (aa (qv av52 0 rfl) (aa (qv av52 1 rfl) (aa (aH (qv av52 3 rfl) rfl) ab bH) ae) ae) Bi)) (ai (aC (bz (bg (ax (jd hr.units) (nP (qv av52 5 rfl) MTablePlayer_beat hr pass0 (aa (aZ dC (gl52.g 4 rfl) z_list cm (aa (qv av52 8 rfl) ab ae) cu cw) ab bf)) (nP (qv av52 6 rfl) MPackPlayer_beat hr pass0 (aa (aZ dC (gl52.g 4 rfl) z_list cm (aa (qv av52 8 rfl) ab ae) cu cw) ab bf)) (nomark _)) (bJ (ax (jd hr.units) (gr (qv av52 5 rfl) MTablePlayer_held hr pass0) (gr (qv av52 6 rfl) MPackPlayer_held hr pass0) (nomark _))))) (ai (au bh)) aE)))) (ai (au bh))))))),?_⟩
 (try dsimp only [cxOf])
 walk_at "rd";rename_i y1 d1 fy1 fd1 n1;refine ⟨tl.new (Ch.inst fy1 fd1 n1),k12,fun kl H1 c1 fkl p1=>⟨rfl,?_⟩⟩
 have c01:Ch [] H H1:=Ch.made fy1 fd1 n1 c1;have fkl0:H kl=none:=chFree (Ch.inst fy1 fd1 n1) fkl;have nkb:kl≠b:=(ar hb fkl0).symm;have hpk1:=c01.get hpk (by simp)
 have pk1:=pkt.tu (Tu.same c01);have hb1:=c01.get hb (by simp)
 clear c1 fkl fd1 n1;have b40:(bls ts ks os).length<=40:=by rw [dW]; have:=e8 (ts:=ts) (ks:=ks) (os:=os); have:=ok.lt; omega
 have bok:=iJ ok;have o12:=ok.lo;walk_at "rd";rename_i y2 d2 fy2 fd2 n2;have cI:Ch [] H1 (upd (upd H1 d2 (.own y2)) y2 (.ins CK d2 [])):=Ch.inst fy2 fd2 n2;refine ⟨cI.get hpk1 (by simp),pk1.tu (Tu.same cI),bok,b40,fun ol kd order H2 c2 fol fkd kh p2=>⟨rfl,?_⟩⟩
 have c12:Ch [] H1 H2:=Ch.made fy2 fd2 n2 c2;have fol1:H1 ol=none:=chFree cI fol;have nob:ol≠b:=(ar hb1 fol1).symm;obtain ⟨d1',hy1⟩:=p1.ob;have n21:y2≠y1:=(ar hy1 fy2).symm;have p1':=p1.new c12;have al:=kh.all (sM ok);have po:PlOk ins (bls ts ks os) (ots ts ks os) order:=⟨bok,sI ok,kh,al,b40,by unfold ots; rw [BF]; omega⟩
 have k0:∀ n,n < ks.length->fsB (bls ts ks os) n=(ks.map Kp.f).getD n false:=fun n h=>by
  have e:ks[n]?=some ks[n]:=BJ h;rw [Bb e,Cu,BN,e]; rfl
 have d2':DQ K H H2 a b ns c:=⟨(c01.trans c12).wk,bx.h.same (c01.trans c12),(c01.trans c12).get hb (by simp)⟩
 have s0:PS K CT CK H H2 a b ns c y1 y2 d2 ins tt kt ot ts ks os bt ot' ol order:=⟨d2',fy1,chFree c01 fy2,n21,nob,kl,kd,_,_,p1',p2,k0,nkb⟩;have hh:=sO ok (by rw [BF]) k0
 clear d2' fy2 fd2 n2 cI c2 fol fkd fol1 c01 c12 fkl0 hpk1 pk1 hb1 bx nkb nob n21 p1 hy1;obtain ⟨e1,g1⟩:=p1'.ob;have g2:=p2.ob;have nh1:List.lookup (Str.ofString "held") (fldsY ins tt kt ot kl)=none:=rfl;have nh2:List.lookup (Str.ofString "held") (fldsB ins bt ot' ol kd)=none:=rfl;walk_at "rd";rename_i r1 H3 c3 f3 g3 r2 H4 c4 f4 g4;refine ⟨fh _,fh _,?_⟩;rw [hh];walk_at "rd";refine iteNn rfl ?_;have s4:=s0.new (c3.trans c4);clear s0 c3 f3 g3 c4 f4 g4 hh g1 g2 nh1 nh2 p1' p2 k0;walk_at "rd";refine eR (fun i σ H'=>∃ (c':Int) (u7 u8:Option V),σ=[some (.ref a),some (.ref b),some (.ref x),some (.ref pk),some (.int (many:Int)),some (.ref y1),some (.ref y2),u7,u8]/\PS K CT CK H H' a b ns c' y1 y2 d2 ins tt kt ot ts ks os bt ot' ol order/\CI c' c (100 * i)) ⟨c,_,_,rfl,s4,by omega,by omega⟩ ?_ ?_
 ·clear s4
  rintro i σ H' hi ⟨c',u7,u8,rfl,sP,ci⟩;have hi:i < many:=by simpa using hi
  have ci1:=ci.lo;have ci2:=ci.hi;have hpk':=sP.d.ch.get hpk (by simpa using aI hpk hb (by intro z; cases z))
  have bS:Box (Scr K H' a ns):=⟨sP.d.hS⟩;have hb':=sP.d.hb;have li:=ok.li;walk_at "rd";refine ⟨bS.h,hb',by omega,by omega,by omega,fun rl row H5 sb lr=>?_⟩
  obtain ⟨⟨c5,dA,ca,cb⟩,frl,grl⟩:=sb;have s5:=sP.bump dA;clear sP bS hb' hpk' dA frl;obtain ⟨kl,kd,kept,kv,p1,p2,hk,nk⟩:=id s5.ex;obtain ⟨e1,g1⟩:=p1.ob;have nh1:List.lookup (Str.ofString "beat") (fldsY ins tt kt ot kl)=none:=rfl;have lr1:row.length<=1000:=by omega
  walk_at "rd";rename_i l1 hl1 res kl' H6 c6 fres fkl nrk gres p1b;have cl:Ch [] H5 (upd H5 l1 (.lst (row.map bV))):=Ch.new hl1 _;have g1l:=cl.get g1 (by simp)
  have grl6:H6 rl=some (.lst (row.map bV)):=c6.get (cl.get grl (by simp)) (by simpa using aI grl g1 (by intro z; cases z))
  have p2b:=(p2.new cl).ob2 c6 g1l s5.n;have g2:=p2b.ob;have nh2:List.lookup (Str.ofString "beat") (fldsB ins bt ot' ol kd)=none:=rfl;walk_at "rd";rename_i l2 hl2;refine ⟨A9 ok hk,fun res2 kd' H7 c7 f7 fk7 n7 g7 p2c=>?_⟩
  have c2l:Ch [] H6 (upd H6 l2 (.lst (row.map bV))):=Ch.new hl2 _;rw [A8 ok] at g7;have g2l:=c2l.get g2 (by simp)
  have gres7:H7 res=some (.lst ((os.map (hdv row kept (upT ts row kept ts.length))).map bV)):=c7.get (c2l.get gres (by simp)) (by simpa using aI gres g2 (by intro z; cases z))
  have p1c:=(p1b.new c2l).ob2 c7 g2l s5.n.symm;have d5:DQ K H H5 a b ns c5:=s5.d;have d7:DQ K H H7 a b ns c5:=((((d5.new cl).ob c6 g1l s5.f1).new c2l).ob c7 g2l s5.f2);have nk7:kl'≠b:=(ar (cl.get d5.hb (by simp)) fkl).symm
  have hk7:∀ n,n < ks.length->nxV (bls ts ks os) row (vOf ts ks os row kept) n=(ks.map fun x=>hdv row kept (upT ts row kept ts.length) x.pl).getD n false:=fun n h=>by
   have e:ks[n]?=some ks[n]:=BJ h;rw [Ba ok e,Cu,BN,e]; rfl
  have s7:PS K CT CK H H7 a b ns c5 y1 y2 d2 ins tt kt ot ts ks os bt ot' ol order:=⟨d7,s5.f1,s5.f2,s5.n,s5.no,kl',kd',_,_,p1c,p2c,hk7,nk7⟩;have hh:=sO ok (by rw [BF]) hk7
  obtain ⟨e2,g12⟩:=p1c.ob;have g22:=p2c.ob;have nh3:List.lookup (Str.ofString "held") (fldsY ins tt kt ot kl')=none:=rfl;have nh4:List.lookup (Str.ofString "held") (fldsB ins bt ot' ol kd')=none:=rfl;clear s5 p1 p2 hk g1 nh1 hl1 cl c6 fres fkl nrk gres p1b g1l grl6 p2b g2 nh2 hl2 c2l c7 f7 fk7 n7 g2l d5 d7 hk7 grl;refine ⟨_,_,_,_,rfl,rfl,gres7,g7,fh _,fh _,?_⟩;walk_at "rd";refine iteNn rfl ?_;walk_at "rd";rename_i r8 H8 c8 f8 g8 r9 H9 c9 f9 g9;refine ⟨fh _,fh _,?_⟩;rw [hh];walk_at "rd";refine iteNn rfl ?_;walk_at "rd";exact ⟨s7.new (c8.trans c9),by omega,by omega⟩
 ·rintro σ H' ⟨c',u7,u8,rfl,sP,ci⟩
  have ci1:=ci.lo;have ci2:=ci.hi;walk_at "rd";exact q c' _ sP.d (by omega) (by simp at ci2; omega)
end
end

section
theorem lG:OpR X (compareOp .IsNot) (fun x y H Q=>∃ a b,x=.bl a/\y=.bl b/\Q (.bl (a != b)) H):=by
 intro pins s σ H x y v u Q I rx ry h;obtain ⟨a,b,rfl,rfl,q⟩:=h;cases rx;cases ry;exact PyProof.Rows.isnot_bool (aW I q rfl)
theorem DuAt.kl {pl:Addr}{H:Hp}{R p2:Addr}{os:List Src} (s:DuAt H R bl sl p2 bs os pp) (k:Kl [pl] H H') (n1:bl≠pl) (n2:sl≠pl) (n3:p2≠pl):DuAt H' R bl sl p2 bs os pp :=
 ⟨k.t _ _ s.r,let ⟨a,b,d⟩:=s.b; ⟨a,k.l _ _ (by simpa using n1) b,aF (fun _ _=>BkAt.tu k.t) d⟩,let ⟨a,b,d⟩:=s.s; ⟨a,k.l _ _ (by simpa using n2) b,d.tu k.t⟩,let ⟨a,b,d⟩:=s.l; ⟨a,k.l _ _ (by simpa using n3) b,d.tu k.t⟩⟩
theorem TlAt.lst{H:Hp}{ins:Nat}{b:Addr}{xs:List V} (s:TlAt C H x ins tt kt ot ts ks os) (c:Ch [b] H H') (hb:H b=some (.lst xs)):TlAt C H' x ins tt kt ot ts ks os :=
 ⟨let ⟨dx,h⟩:=s.ob; ⟨dx,c.get h (by simpa using aI h hb (by intro z; cases z))⟩,s.tp.tu (Tu.lst c hb)⟩
section
variable {P:Program}{w:World}{K:PySem.W.Frag}{mg:Str->Option Value}{base:Heap}{f:Addr}{fd:FuncData}{k:Nat}
theorem Bo:Nd "_law_tables_lists" := ∅
theorem Bp:Nd "Tables" := ∅
theorem Bq:Nd "_law_due_pack" := ∅
theorem sR:Nd "packed" := ∅
theorem sS:Nd "_law_pair_right" := ∅
theorem lH:Nd "pack_holds" := ∅
theorem Br:Nd "_law_played" := ∅
theorem av53:AF (defScope (top 53)) ["_law_script", "_law_at", "_law_m", "_law_ins", "_law_keeps", "_law_lists", "_law_holds", "_law_ends", "_law_tables", "_law_due", "_law_found", "_law_pack", "_law_paper"]:=⟨∅⟩
theorem gl53:AG (defScope (top 53)) ["_law_next", "_law_tables_lists", "Tables", "_law_due_pack", "packed", "_law_pair_right", "pack_holds", "tuple", "_law_played"]:=⟨∅⟩
def lI:Scope:={ kind:=PySem.ScopeKind.function,names:=[ (PySem.Str.ofString ".0",PySem.NameKind.local),(PySem.Str.ofString "_law_first",PySem.NameKind.local),(PySem.Str.ofString "_law_place",PySem.NameKind.local)],isGenerator:=false,isCoroutine:=false,more:=[]:PySem.Scope }
theorem lJ:CompOk lI (defScope (top 53)) (["_law_first", "_law_place"]:List Str) (["_law_script", "_law_at", "_law_m", "_law_ins", "_law_keeps", "_law_lists", "_law_holds", "_law_ends", "_law_tables", "_law_due", "_law_found", "_law_pack", "_law_paper"]:List Str) [] (["_law_first", "_law_place"]:List Str):=compOk rfl ∅ ∅ ∅ ∅ rfl ∅
theorem iK:AK (relab lI (defScope (top 53))) ["_law_first", "_law_place"]:=⟨∅⟩
theorem lK:AV (relab lI (defScope (top 53))) ["_law_first", "_law_place"]:=⟨∅⟩
def iL:Scope:={ kind:=PySem.ScopeKind.function,names:=[ (PySem.Str.ofString ".0",PySem.NameKind.local),(PySem.Str.ofString "_law_place",PySem.NameKind.local),(PySem.Str.ofString "list",PySem.NameKind.globalImplicit)],isGenerator:=false,isCoroutine:=false,more:=[]:PySem.Scope }
theorem sT:CompOk iL (defScope (top 53)) (["_law_place"]:List Str) (["_law_script", "_law_at", "_law_m", "_law_ins", "_law_keeps", "_law_lists", "_law_holds", "_law_ends", "_law_tables", "_law_due", "_law_found", "_law_pack", "_law_paper"]:List Str) [] (["_law_place"]:List Str):=compOk rfl ∅ ∅ ∅ ∅ rfl ∅
theorem sU:AK (relab iL (defScope (top 53))) ["_law_place"]:=⟨∅⟩
theorem Bu:AG (relab iL (defScope (top 53))) ["list"]:=⟨∅⟩
theorem Bv:AV (relab iL (defScope (top 53))) ["_law_place"]:=⟨∅⟩
def spRnd (K:PySem.W.Frag):Sp:=fun vs H Q _=>∃ (a b:Addr) (ns:List Int) (c:Int),vs=[.ref a,.ref b]/\Scr K H a ns/\H b=some (.lst [.int c])/\0<=c/\c < 2 ^ 40/\∀ c' H',DQ K H H' a b ns c'->c<=c'->c'<=c + 10000->Q (.bl true) H'
theorem scRnd:FnScope ["_law_script", "_law_at", "_law_m", "_law_ins", "_law_keeps", "_law_lists", "_law_holds", "_law_ends", "_law_tables", "_law_due", "_law_found", "_law_pack", "_law_paper"] ["_law_script", "_law_at"] (defScope (top 53)):=⟨rfl,rfl,rfl,∅,rfl,∅,∅⟩
theorem Bx {C CP:Addr} (F:Fun K "_law_round" "_law_round" (top 53) f fd) (D_law_next:DefOk P w K mg base CX0 (k + 1) "_law_next" ["_law_script", "_law_at"] (spNext K)) (D_law_tables_lists:DefOk P w K mg base CX0 (k + 1) "_law_tables_lists" ["_law_script", "_law_at", "_law_ins", "_law_keeps", "_law_many", "_law_outs"] (spTl K)) (MkTables:MakeOk P w K mg base CX0 k C "Tables" ["self", "ins", "tables", "keeps", "outs"] (spTabs C)) (D_law_due_pack:DefOk P w K mg base CX0 (k + 1) "_law_due_pack" ["_law_tables", "_law_holds", "_law_ends"] spDue) (Dpacked:DefOk P w K mg base CX0 (k + 1) "packed" ["tables"] (spPacked C CP)) (D_law_pair_right:DefOk P w K mg base CX0 (k + 1) "_law_pair_right" ["_law_found", "_law_ins", "_law_due"] (spRight CP)) (Dpack_holds:DefOk P w K mg base CX0 (k + 1) "pack_holds" ["tables", "pack", "paper"] (spPh C CP)) (D_law_played:DefOk P w K mg base CX0 (k + 1) "_law_played" ["_law_script", "_law_at", "_law_tables", "_law_pack", "_law_many"] (spPld K C CP)) (z_tuple:mg "tuple" = none) (z_list:mg "list" = none):FnOk P w K mg base CX0 (k + 2) f fd ["_law_script", "_law_at"] (spRnd K):=by
 have nd:=scRnd.nd;refine F.ok scRnd (fun vs H Q E h=>by obtain ⟨a,b,ns,c,rfl,_⟩:=h; rfl) (fun cdv A outer s H vs Q E hr h=>?_)
 obtain ⟨a,b,ns,c,rfl,hS,hb,h0,h1,q⟩:=h;have hrm:=hr;refine ⟨_,(Pr.h (ah (ay (i:=2) nd rfl (av53.l 2 rfl) (ao D_law_next hr (gl53.g 0 rfl) pass0 (aa (qv av53 0 rfl) (aa (qv av53 1 rfl) ab ae) ae) eG)) (ah (ay (i:=3) nd rfl (av53.l 3 rfl) (av bG (qv av53 2 rfl) ag)) (ah (ay (i:=4) nd rfl (av53.l 4 rfl) (av bG (av dj (qv av53 2 rfl) ag) ag)) (ah (eS (ao D_law_tables_lists hr (gl53.g 1 rfl) pass0 (aa (qv av53 0 rfl) (aa (qv av53 1 rfl) (aa (qv av53 3 rfl) (aa (qv av53 4 rfl) (aa (av bG (av dj (qv av53 2 rfl) ag) ag) (aa (av bG (av dj (qv av53 2 rfl) ag) ag) ab bT) bT) ae) ae) ae) ae) Bo) (cN rfl (aw (aj (i:=5) nd rfl (av53.l 5 rfl)) (aw (aj (i:=6) nd rfl (av53.l 6 rfl)) (aw (aj (i:=7) nd rfl (av53.l 7 rfl)) ba))))) (ah (eA (i:=6) nd rfl (av53.l 6 rfl) rfl lJ (bj (qv av53 6 rfl)) (fun _ _ _ _ _=>(bP K 2 rfl rfl (aw (aj (i:=0) lJ.nd rfl (Or.inl (iK.k 0 rfl)) (Or.inr (iK.k 0 rfl))) (aw (aj (i:=1) lJ.nd rfl (Or.inl (iK.k 1 rfl)) (Or.inr (iK.k 1 rfl))) ba)))) (fun _ _ _ _ _=>(dG (ax iO (qw lK 1 rfl) dN (nomark _)))) (fun _ _ _ _ _=>(aN (aa (qw lK 0 rfl) (aa (qw lK 1 rfl) ab ae) ae))) rfl) (ah (ay (i:=8) nd rfl (av53.l 8 rfl) (gu MkTables hrm (gl53.g 2 rfl) pass0 (aa (qv av53 3 rfl) (aa (qv av53 5 rfl) (aa (qv av53 6 rfl) (aa (qv av53 7 rfl) ab ae) ae) ae) ae) Bp)) (ah (ay (i:=9) nd rfl (av53.l 9 rfl) (ao D_law_due_pack hr (gl53.g 3 rfl) pass0 (aa (qv av53 5 rfl) (aa (qv av53 6 rfl) (aa (qv av53 7 rfl) ab ae) ae) ae) Bq)) (ah (ay (i:=10) nd rfl (av53.l 10 rfl) (ao Dpacked hr (gl53.g 4 rfl) pass0 (aa (qv av53 8 rfl) ab ae) sR)) (ah (aC (aX (aO (ao D_law_pair_right hr (gl53.g 5 rfl) pass0 (aa (qv av53 10 rfl) (aa (qv av53 3 rfl) (aa (qv av53 9 rfl) ab ae) ae) ae) sS))) (ai (au bh)) aE) (ah (eS (qv av53 10 rfl) (cN rfl (aw (aj (i:=11) nd rfl (av53.l 11 rfl)) (aw (aj (i:=12) nd rfl (av53.l 12 rfl)) ba)))) (ah (aC (bz (bg (ax lG (ao Dpack_holds hr (gl53.g 6 rfl) pass0 (aa (qv av53 8 rfl) (aa (qv av53 11 rfl) (aa (qv av53 12 rfl) ab ae) ae) ae) lH) bh (nomark _)) (bJ (ax lG (ao Dpack_holds hr (gl53.g 6 rfl) pass0 (aa (qv av53 8 rfl) (aa (qv av53 11 rfl) (aa (aZ cQ (gl53.g 7 rfl) z_tuple bD (aa (qv av53 12 rfl) ab ae) bE bF) ab bf) ae) ae) lH) bh (nomark _))))) (ai (au bh)) aE) (ah (aC (ax lG (ao Dpack_holds hr (gl53.g 6 rfl) pass0 (aa (qv av53 8 rfl) (aa (qv av53 11 rfl) (aa (aR rfl sT (bj (qv av53 12 rfl)) (fun _ _ _ _ _=>(aj (i:=0) sT.nd rfl (Or.inl (sU.k 0 rfl)) (Or.inr (sU.k 0 rfl)))) (fun _ _ _ _ _=>aU) (fun _ _ _ _ _=>(aZ (xV K rfl) (Bu.g 0 rfl) z_list cm (aa (qw Bv 0 rfl) ab ae) cu cw))) ab bc) ae) ae) lH) bh (nomark _)) (ai (au bh)) aE) (ah (aC (aX (aO (ao D_law_played hr (gl53.g 8 rfl) pass0 (aa (qv av53 0 rfl) (aa (qv av53 1 rfl) (aa (qv av53 8 rfl) (aa (qv av53 11 rfl) (aa (av cH ag (av bG (av dj (qv av53 2 rfl) ag) ag)) ab bT) ae) ae) ae) ae) Br))) (ai (au bh)) aE) (ah (bp (bM Cr CG CH cy (qv av53 12 rfl) (aa dN ab aV))) (ai (au (ao D_law_pair_right hr (gl53.g 5 rfl) pass0 (aa (ao Dpacked hr (gl53.g 4 rfl) pass0 (aa (qv av53 8 rfl) ab ae) sR) (aa (qv av53 3 rfl) (aa (qv av53 9 rfl) ab ae) ae) bf) sS)))))))))))))))))),?_⟩
 (try dsimp only [cxOf])
 have bS:Box (Scr K H a ns):=⟨hS⟩;clear hS;walk_at "rd";refine ⟨bS.h,hb,h0,by omega,fun m H1 m0 m1 c1 b1=>?_⟩
 have hS:=bS.h;obtain ⟨i5,e1⟩:∃ n:Nat,m % 5=(n:Int):=⟨_,(Dz (by omega)).symm⟩
 obtain ⟨k5,e2⟩:∃ n:Nat,m / 5 % 5=(n:Int):=⟨_,(Dz (by omega)).symm⟩
 obtain ⟨t10,e3⟩:∃ n:Nat,m / 25 % 10=(n:Int):=⟨_,(Dz (by omega)).symm⟩
 obtain ⟨o4,e4⟩:∃ n:Nat,m / 250 % 4=(n:Int):=⟨_,(Dz (by omega)).symm⟩
 obtain ⟨m8,e5⟩:∃ n:Nat,1 + m / 1000 % 8=(n:Int):=⟨_,(Dz (by omega)).symm⟩
 have eL:Box ([V.ref a,V.ref b,V.int (m % 5),V.int (m / 5 % 5),V.int (m / 25 % 10),V.int (m / 250 % 4)]=[V.ref a,V.ref b,V.int (i5:Int),V.int (k5:Int),V.int (t10:Int),V.int (o4:Int)]):=⟨by rw [e1,e2,e3,e4]⟩
 walk_at "rd";refine ⟨eL.h,by omega,by omega,by omega,by omega,hS.ch hb c1,b1,by omega,by omega,fun R tl kl ol ts ks os H2 dt gR=>?_⟩
 dsimp only
 rw [e1,e2];obtain ⟨⟨c2,dq,ca,cb⟩,dr,ok,t9,k4,o3⟩:=dt;have d0:DQ K H H2 a b ns c2:=(⟨c1,hS.ch hb c1,b1⟩:DQ K H H1 a b ns (c + 1)).trans dq;clear dq c1 b1 hS;obtain ⟨ntl,tps,ht,tt⟩:=dr.t;obtain ⟨nkl,kps,hk,kk⟩:=dr.k;obtain ⟨nol,ops,ho,oo⟩:=dr.o;have lk:=BH kk;walk_at "rd";refine bO (kps.map V.ref) (fun i ys σ H'=>Ch [] H2 H'/\(∃ qs,ys=qs.map V.ref/\Paired (KpAt H') (ks.take i) qs)/\∃ u v,σ=[u,v]) (by walk_at "sz") ⟨Ch.refl _ _,⟨[],rfl,.nil⟩,_,_,rfl⟩ ?_ ?_ ?_
 ·rintro i ys σ H' hi ⟨c,⟨qs,rfl,kq⟩,_⟩
  have:=BH kq;rw [B8] at this;exact ⟨by rw [BF]; omega,SqL.of (c.get hk (by simp))⟩
 ·rintro i ys σ H' z hz ⟨c,⟨qs,rfl,kq⟩,u,v,rfl⟩
  obtain ⟨p,t,rfl,et,t1⟩:=bq kk i z hz;obtain ⟨pp,hp,hpp⟩:=t1.tu (Tu.same c);walk_at "rd";rename_i T hT;refine ⟨⟨qs++[T],by simp,?_⟩,_,_,rfl⟩
  rw [B0,et];exact bu ⟨pp,af,aA hT hpp⟩ (aF (fun _ _ z=>KpAt.tu (Tu.new _ hT) z) kq)
 rintro ys σ H3 ⟨c3,⟨kqs,rfl,kq⟩,_⟩;rw [BF,<- lk,B2] at kq;intro kl2 hkl2;have c4:Ch [] H2 (upd H3 kl2 (.lst (kqs.map V.ref))):=c3.trans (Ch.new hkl2 _);have d4:=d0.new c4;have nb2:b≠kl2:=(d0.new c3).nb hkl2;have dr4:DrAt [b] (upd H3 kl2 (.lst (kqs.map V.ref))) tl kl2 ol ts ks os:=⟨(dr.ch c4).t,⟨by simpa using nb2.symm,kqs,af,aF (fun _ _ z=>KpAt.tu (Tu.new _ hkl2) z) kq⟩,(dr.ch c4).o⟩
 show tSeq _ _ _ _ (upd H3 kl2 (.lst (kqs.map V.ref)));generalize upd H3 kl2 (.lst (kqs.map V.ref))=H4 at d4 dr4 ⊢;clear c4 hkl2 kq c3 oo ho nol kk hk nkl tt ht ntl dr gR d0 lk;walk_at "rd";rename_i x dx fx fdx nx;refine ⟨dr4.ch (Ch.inst fx fdx nx),ok,fun tt kt ot H5 c5 tl5=>⟨rfl,?_⟩⟩
 have c45:Ch [] H4 H5:=Ch.made fx fdx nx c5;have d5:=d4.new c45;have dr5:=dr4.ch c45;clear c5 fx fdx nx d4 dr4 c45;walk_at "rd";rename_i R bl sl pl2 bps sps pps H6 c6 r1 r2 r3 r4 r5 r6 r7;have tl6:=tl5.new c6;have d6:=d5.new c6;have du6:DuAt H6 R bl sl pl2 (bls ts ks os) (ots ts ks os) (ppr ts ks os):=⟨r1,⟨bps,r2,r3⟩,⟨sps,r4,r5⟩,⟨pps,r6,r7⟩⟩;refine ⟨tl6,ok,sQ ok,fun T pk dk bt ot' pl qs H7 c7 fpl g1 g2 pkt g3 g4=>?_⟩
 have n1:bl≠pl:=ar r2 fpl;have n2:sl≠pl:=ar r4 fpl;have n3:pl2≠pl:=ar r6 fpl;have nbp:b≠pl:=d6.nb fpl;have fpl0:H pl=none:=d6.free fpl;have tl7:=tl6.new c7;have d7:=d6.new c7;have du7:=du6.ch c7;have fd7:FdAt CP H7 T pk dk bt ot' pl i5 (bls ts ks os) (ots ts ks os) (ppr ts ks os):=⟨g1,g2,pkt,qs,g3,g4⟩;clear tl6 d6 du6 r1 r2 r3 r4 r5 r6 r7 tl5 d5 dr5 c6 fpl c7 g1 g2 pkt g3 g4;have lb4:∀ b∈bls ts ks os,b.ss.length<=4:=fun b hb=>(iJ ok b hb).s4
 have lp24:=e8 (ts:=ts) (ks:=ks) (os:=os);have lbb:(bls ts ks os).length<=40:=by rw [dW]; omega
 have loo:(ots ts ks os).length<=40:=by unfold ots; rw [BF]; omega
 have lpp:(ppr ts ks os).length<=40:=by omega
 have gT7:=fd7.f;obtain ⟨qs8,gpl7,wpl7⟩:=fd7.l;have lqs:(ppr ts ks os).length=qs8.length:=by have:=BH wpl7; simpa using this
 walk_at "rd";rename_i H8 c8;have tl8:=tl7.new c8;have d8:=d7.new c8;have du8:=du7.ch c8;have fd8:=fd7.ch c8;have gpl:=c8.get gpl7 (by simp)
 have wpl:=wpl7.tu (Tu.same c8);refine ⟨tl8,ok,fd8.p,fd8.k,(show SqX .list H8 pl (qs8.map V.ref) from gpl),aF (S:=fun (k:Wr) p=>SqX .tuple H8 p (k.map kV)) (fun _ _ h=>h) wpl,fun H9 c9=>?_⟩
 have tl9:=tl8.new c9;have d9:=d8.new c9;have du9:=du8.ch c9;have fd9:=fd8.ch c9;have gpl9:=c9.get gpl (by simp)
 have wpl9:=wpl.tu (Tu.same c9);clear tl8 d8 du8 fd8 gpl wpl c9 tl7 d7 du7;walk_at "rd";rename_i l2 hl2;have cl2:Ch [] H9 (upd H9 l2 (.tup (qs8.map V.ref))):=Ch.new hl2 _;have fdl:=fd9.ch cl2;refine ⟨tl9.new cl2,ok,fdl.p,fdl.k,(show SqX .tuple (upd H9 l2 (.tup (qs8.map V.ref))) l2 (qs8.map V.ref) from af),aF (S:=fun (k:Wr) p=>SqX .tuple (upd H9 l2 (.tup (qs8.map V.ref))) p (k.map kV)) (fun _ _ h=>h) (wpl9.tu (Tu.same cl2)),fun HA cA=>?_⟩
 have c9A:=cl2.trans cA;have tlA:=tl9.new c9A;have dA:=d9.new c9A;have duA:=du9.ch c9A;have fdA:=fd9.ch c9A;have gplA:=c9A.get gpl9 (by simp)
 have wplA:=wpl9.tu (Tu.same c9A);clear c9A cA fdl cl2 hl2 tl9 d9 du9 fd9 gpl9 wpl9;walk_at "rd";refine bO (qs8.map V.ref) (fun i ys σ H'=>Ch [] HA H'/\(∃ us,ys=us.map V.ref/\Paired (fun (k:Wr) p=>SqX .list H' p (k.map kV)) (((ppr ts ks os).take i).map plK) us)/\∃ u,σ=[u]) (by walk_at "sz") ⟨Ch.refl _ _,⟨[],rfl,.nil⟩,_,rfl⟩ ?_ ?_ ?_
 ·rintro i ys σ H' hi ⟨c,⟨us,rfl,wu⟩,_⟩
  have:=BH wu;rw [BF,B8] at this;exact ⟨by rw [BF]; omega,SqL.of (c.get gplA (by simp))⟩
 ·rintro i ys σ H' z hz ⟨c,⟨us,rfl,wu⟩,u,rfl⟩
  obtain ⟨p,y,rfl,ey,hp⟩:=bq (wplA.tu (Tu.same c)) i z hz;rw [BN] at ey;obtain ⟨pp,ep,rfl⟩:=B5.mp ey;rw [B0,ep,show (some pp).toList=[pp] from rfl,BL];walk_at "rd";rename_i l hl;exact ⟨⟨us++[l],by simp,bu (R:=fun (k:Wr) r=>SqX .list (upd H' l (.lst ((plK pp).map kV))) r (k.map kV)) af (aF (fun (k:Wr) p (z:SqX .list H' p (k.map kV))=>z.ch (Ch.new hl _)) wu)⟩,_,rfl⟩
 rintro ys σ HB ⟨cB,⟨us,rfl,wu⟩,_⟩;rw [BF,<- lqs,B2] at wu;intro L hL;have cL:=Ch.new (W:=[]) hL (.lst (us.map V.ref));have cAL:=cB.trans cL;have tlL:=tlA.new cAL;have dL:=dA.new cAL;have duL:=duA.ch cAL;have fdL:=fdA.ch cAL;have gplL:=cAL.get gplA (by simp)
 have gL:SqX .list (upd HB L (.lst (us.map V.ref))) L (us.map V.ref):=af;have wuL:=aF (fun (k:Wr) p (z:SqX .list HB p (k.map kV))=>z.ch cL) wu
 generalize upd HB L (.lst (us.map V.ref))=HC at cL cAL tlL dL duL fdL gplL gL wuL ⊢;clear cL cAL hL wu cB tlA dA duA fdA gplA wplA;have eM:Box ([V.ref a,V.ref b,V.ref x,V.ref pk,V.int (1 + m / 1000 % 8)]=[V.ref a,V.ref b,V.ref x,V.ref pk,V.int (m8:Int)]):=⟨by rw [e5]⟩
 walk_at "rd";refine ⟨fdL.p,fdL.k,gL,wuL,fun HD cD=>?_⟩
 have tlD:=tlL.new cD;have dD:=dL.new cD;have duD:=duL.ch cD;have fdD:=fdL.ch cD;have gplD:=cD.get gplL (by simp)
 clear cD tlL dL duL fdL gplL gL wuL;have neb:∀ {p:Addr}{vs:List Addr},HD p=some (.lst (vs.map V.ref))->p≠b:=fun {p vs} h z=>by
  rw [z,dD.hb] at h;have h:=HO.lst.inj (Ca h);cases vs with
  | nil=>cases h
  | cons x y=>cases h
 walk_at "rd";refine ⟨eM.h,dD.hS,dD.hb,by omega,by omega,tlD,ok,fdD.p,fdD.k,by omega,fun c3 HE dE ce1 ce2=>?_⟩
 have n4:bl≠b:=let ⟨_,h,_⟩:=duD.b; neb h;have n5:sl≠b:=let ⟨_,h,_⟩:=duD.s; neb h;have n6:pl2≠b:=let ⟨_,h,_⟩:=duD.l; neb h;have tlE:=tlD.lst dE.ch dD.hb;have duE:=duD.kl (Kl.one dE.ch dD.hb (by simp)) n4 n5 n6
 have gplE:HE pl=some (.lst (qs8.map V.ref)):=dE.ch.get gplD (by simpa using nbp.symm)
 have d3:=(dD.trans dE).own (zs:=qs8.map V.ref++[.non]) fpl0 gplE nbp;have tl3:=tlE.lst (Ch.put (o:=.lst (qs8.map V.ref++[.non]))) gplE;have du3:=duE.kl (Kl.one (Ch.put (o:=.lst (qs8.map V.ref++[.non]))) gplE (by simp)) n1 n2 n3
 have z40:(qs8.map V.ref).length<=40:=by rw [BF]; omega
 have aok:=sQ ok;clear tlD dD duD fdD gplD dE tlE duE neb;walk_at "rd";rename_i T2 pk2 dk2 bt2 ot2 plz qs2 HF cF fz f1 f2 f3 f4 f5;refine ⟨⟨f1,f2,f3,qs2,f4,f5⟩,du3.ch cF,lb4,lbb,loo,lpp,fun HG cG=>?_⟩
 exact q c3 HG ((d3.new cF).new cG) (by omega) (by omega)
end
end

section
section
variable {P:Program}{w:World}{K:PySem.W.Frag}{mg:Str->Option Value}{base:Heap}{f:Addr}{fd:FuncData}{k:Nat}
theorem By:Nd "_law_round" := ∅
def spLaw (K:PySem.W.Frag):Sp:=fun vs H Q _=>∃ (a:Addr) (ns:List Int),vs=[.ref a]/\Scr K H a ns/\∀ H',Q (.bl true) H'
theorem av54:AF (defScope (top 54)) ["_law_script", "_law_at", "_law_k"]:=⟨∅⟩
theorem gl54:AG (defScope (top 54)) ["range", "len", "_law_round"]:=⟨∅⟩
theorem scLaw:FnScope ["_law_script", "_law_at", "_law_k"] ["_law_script"] (defScope (top 54)):=⟨rfl,rfl,rfl,∅,rfl,∅,∅⟩
theorem BA (F:Fun K "law" "law" (top 54) f fd) (D_law_round:DefOk P w K mg base CX0 k "_law_round" ["_law_script", "_law_at"] (spRnd K)) (z_range:mg "range" = none) (z_len:mg "len" = none):FnOk P w K mg base CX0 (k + 1) f fd ["_law_script"] (spLaw K):=by
 have nd:=scLaw.nd;refine F.ok scLaw (fun vs H Q E h=>by obtain ⟨a,ns,rfl,_⟩:=h; rfl) (fun cdv A outer s H vs Q E hr h=>?_)
 obtain ⟨a,ns,rfl,hS,q⟩:=h;refine ⟨_,(Pr.h (ah (ay (i:=1) nd rfl (av54.l 1 rfl) (bZ (aa ag ab aV))) (ah (bK Ci rfl (cV (gl54.g 0 rfl) z_range (aa (av cH ag (av dj (aq aJ (gl54.g 1 rfl) z_len BY (aa (i0 vJ (qv av54 0 rfl) i7 (i8 ag)) ab aS) aK aL) ag)) ab bT)) (aj (i:=2) nd rfl (av54.l 2 rfl)) (ai (aC (aX (aO (ao D_law_round hr (gl54.g 2 rfl) pass0 (aa (qv av54 0 rfl) (aa (qv av54 1 rfl) ab ae) ae) By))) (ai (au bh)) aE))) (ai (au bh))))),?_⟩
 (try dsimp only [cxOf])
 have l63:=hS.1;walk_at "rd";rename_i b hb l hl;have kc:=iQ (ns.map V.int) none (some 60);rw [BF] at kc;refine ⟨by omega,?_⟩
 have cc:Ch [] H (upd (upd H b (.lst [.int 0])) l (.lst (cutV (ns.map V.int) none (some 60)))):=(Ch.new hb _).trans (Ch.new hl _);refine eR (fun i σ H'=>∃ (c:Int) (u:Option V),σ=[some (.ref a),some (.ref b),u]/\Scr K H' a ns/\H' b=some (.lst [.int c])/\0<=c/\c<=10000 * i) ⟨0,_,rfl,hS.same cc,aA hl af,by omega,by omega⟩ ?_ ?_
 ·rintro i σ H' hi ⟨c,u,rfl,hS',hb',c0,c1⟩
  have hi:i < 100:=by have:i < (1 + ((cutV (ns.map V.int) none (some 60)).length:Int) / 40).toNat:=hi; omega
  walk_at "rd";rename_i c' H2 d c'0 c'1;exact ⟨d.hS,d.hb,by omega,by omega⟩
 ·rintro σ H' ⟨c,u,rfl,_⟩
  walk_at "rd";exact q _
end
end

section
open PySem.W (nsIn findIn mg_of mg_none_of isFn)
theorem lp0 {α:Type}{p:List α->Prop} (h:p []):∀ us:List α,us.length=0->p us:=fun us e=>by cases us with | nil=>exact h | cons _ _=>cases e
theorem lp1 {α:Type}{p:List α->Prop} (h:∀ x0,p [x0]):∀ us:List α,us.length=1->p us:=fun us e=>by cases us with | nil=>cases e | cons a r=>exact lp0 (p:=fun r=>p (a :: r)) (h a) r (Nat.succ.inj e)
theorem lp2 {α:Type}{p:List α->Prop} (h:∀ x0 x1,p [x0,x1]):∀ us:List α,us.length=2->p us:=fun us e=>by cases us with | nil=>cases e | cons a r=>exact lp1 (p:=fun r=>p (a :: r)) (h a) r (Nat.succ.inj e)
theorem lp3 {α:Type}{p:List α->Prop} (h:∀ x0 x1 x2,p [x0,x1,x2]):∀ us:List α,us.length=3->p us:=fun us e=>by cases us with | nil=>cases e | cons a r=>exact lp2 (p:=fun r=>p (a :: r)) (h a) r (Nat.succ.inj e)
theorem lp4 {α:Type}{p:List α->Prop} (h:∀ x0 x1 x2 x3,p [x0,x1,x2,x3]):∀ us:List α,us.length=4->p us:=fun us e=>by cases us with | nil=>cases e | cons a r=>exact lp3 (p:=fun r=>p (a :: r)) (h a) r (Nat.succ.inj e)
theorem lp5 {α:Type}{p:List α->Prop} (h:∀ x0 x1 x2 x3 x4,p [x0,x1,x2,x3,x4]):∀ us:List α,us.length=5->p us:=fun us e=>by cases us with | nil=>cases e | cons a r=>exact lp4 (p:=fun r=>p (a :: r)) (h a) r (Nat.succ.inj e)
theorem lp6 {α:Type}{p:List α->Prop} (h:∀ x0 x1 x2 x3 x4 x5,p [x0,x1,x2,x3,x4,x5]):∀ us:List α,us.length=6->p us:=fun us e=>by cases us with | nil=>cases e | cons a r=>exact lp5 (p:=fun r=>p (a :: r)) (h a) r (Nat.succ.inj e)
theorem ll1 {F:FuncData}{ps:List Str} (h:∀ x0,bindArgs F ⟨[x0],[]⟩=pure (ps.zip [x0])) (us:List Value) (e:us.length=1):bindArgs F ⟨us,[]⟩=pure (ps.zip us):=lp1 (p:=fun us=>bindArgs F ⟨us,[]⟩=pure (ps.zip us)) h us e
theorem ll2 {F:FuncData}{ps:List Str} (h:∀ x0 x1,bindArgs F ⟨[x0,x1],[]⟩=pure (ps.zip [x0,x1])) (us:List Value) (e:us.length=2):bindArgs F ⟨us,[]⟩=pure (ps.zip us):=lp2 (p:=fun us=>bindArgs F ⟨us,[]⟩=pure (ps.zip us)) h us e
theorem ll3 {F:FuncData}{ps:List Str} (h:∀ x0 x1 x2,bindArgs F ⟨[x0,x1,x2],[]⟩=pure (ps.zip [x0,x1,x2])) (us:List Value) (e:us.length=3):bindArgs F ⟨us,[]⟩=pure (ps.zip us):=lp3 (p:=fun us=>bindArgs F ⟨us,[]⟩=pure (ps.zip us)) h us e
theorem ll4 {F:FuncData}{ps:List Str} (h:∀ x0 x1 x2 x3,bindArgs F ⟨[x0,x1,x2,x3],[]⟩=pure (ps.zip [x0,x1,x2,x3])) (us:List Value) (e:us.length=4):bindArgs F ⟨us,[]⟩=pure (ps.zip us):=lp4 (p:=fun us=>bindArgs F ⟨us,[]⟩=pure (ps.zip us)) h us e
theorem ll5 {F:FuncData}{ps:List Str} (h:∀ x0 x1 x2 x3 x4,bindArgs F ⟨[x0,x1,x2,x3,x4],[]⟩=pure (ps.zip [x0,x1,x2,x3,x4])) (us:List Value) (e:us.length=5):bindArgs F ⟨us,[]⟩=pure (ps.zip us):=lp5 (p:=fun us=>bindArgs F ⟨us,[]⟩=pure (ps.zip us)) h us e
theorem ll6 {F:FuncData}{ps:List Str} (h:∀ x0 x1 x2 x3 x4 x5,bindArgs F ⟨[x0,x1,x2,x3,x4,x5],[]⟩=pure (ps.zip [x0,x1,x2,x3,x4,x5])) (us:List Value) (e:us.length=6):bindArgs F ⟨us,[]⟩=pure (ps.zip us):=lp6 (p:=fun us=>bindArgs F ⟨us,[]⟩=pure (ps.zip us)) h us e
structure Gf (K:PySem.W.Frag) (x:Str) (t:Stmt) (f:Addr) (d:FuncData):Prop where
 a:nsIn K mainGlobals x=some (some (.ref f))
 F:Fun K x x t f d
theorem D0 {l:PySem.W.OpenLaw}{w:World}{K:PySem.W.Frag}{h:Heap}{mg:Str->Option Value}{base:Heap}{CX:CXT} (X:K.In h) (G:h.Ns mainGlobals mg) {x:Str}{t:Stmt}{f:Addr}{d:FuncData}{ps:List Str}{k:Nat}{sp:Sp} (g:Gf K x t f d) (b:Binds K d ps []) (o:FnOk l.prog w K mg base CX k f d ps sp):DefOk l.prog w K mg base CX k x ps sp:=⟨f,d,o,b,g.F.kp,mg_of X G g.a⟩
theorem BD {l:PySem.W.OpenLaw}{w:World}{h:Heap}{mg:Str->Option Value}{fa CP CT CQ CY:Addr} (X:K.In h) (G:h.Ns mainGlobals mg) (hfa:mg "law" = some (.ref fa))
  {f0 f1 f2 f3 f4 f5 f6 f7 f8 f9 f10 f11 f12 f13 f14 f15 f16 f17 f18 f19 f20 f21 f22 f23 f24 f25 f26 f27 f28 f29 f30 f31 f32 f33 f34 f35 f36 f37 f38 f39 f40 f41 f42 f43 f44 f45:Addr}{d0 d1 d2 d3 d4 d5 d6 d7 d8 d9 d10 d11 d12 d13 d14 d15 d16 d17 d18 d19 d20 d21 d22 d23 d24 d25 d26 d27 d28 d29 d30 d31 d32 d33 d34 d35 d36 d37 d38 d39 d40 d41 d42 d43 d44 d45:FuncData}
  {BB:Addr} (aBB:nsIn K mainGlobals "BlockPlayer" = some (some (.ref BB))) (hBB:PySem.W.specialIn K (.ref BB) "__getattribute__" = some (some (.builtin "type.__getattribute__"))) (rBB:PySem.W.readsIn K BB (.type "type")=true)
  {SSILENCE:Addr}{tSILENCE0 tSILENCE1:Tok}{nSILENCE:Nat}{slSILENCE:Array (Option Value)} (aSSILENCE:nsIn K mainGlobals "SILENCE" = some (some (.ref SSILENCE))) (lSSILENCE:K.lookup SSILENCE=some ⟨.type "tuple",none,.seq #[.str "none" tSILENCE0,.int 0 tSILENCE1] nSILENCE,slSILENCE⟩)
  (aP:nsIn K mainGlobals "Pack" = some (some (.ref CP)))
  (aT:nsIn K mainGlobals "Tables" = some (some (.ref CT)))
  (aQ:nsIn K mainGlobals "TablePlayer" = some (some (.ref CQ)))
  (aY:nsIn K mainGlobals "PackPlayer" = some (some (.ref CY)))
  (G0:Gf K "is_whole" (top 6) f0 d0)
  (G1:Gf K "is_below" (top 7) f1 d1)
  (G2:Gf K "is_listed" (top 8) f2 d2)
  (G3:Gf K "is_place" (top 9) f3 d3)
  (G4:Gf K "ask_length" (top 10) f4 d4)
  (G5:Gf K "ask_values" (top 11) f5 d5)
  (G6:Gf K "ask_bits" (top 12) f6 d6)
  (G7:Gf K "is_table" (top 14) f7 d7)
  (G8:Gf K "is_keep" (top 15) f8 d8)
  (G9:Gf K "ask_tables" (top 16) f9 d9)
  (G10:Gf K "table_bit" (top 18) f10 d10)
  (G11:Gf K "is_block" (top 21) f11 d11)
  (G12:Gf K "loose_sources" (top 22) f12 d12)
  (G13:Gf K "loose_order" (top 23) f13 d13)
  (G14:Gf K "has_ring" (top 24) f14 d14)
  (G15:Gf K "ask_pack" (top 25) f15 d15)
  (G16:Gf K "kept_table" (top 28) f16 d16)
  (G17:Gf K "table_numbers" (top 29) f17 d17)
  (G18:Gf K "wanted_tables" (top 30) f18 d18)
  (G19:Gf K "sources_for" (top 31) f19 d19)
  (G20:Gf K "packed" (top 32) f20 d20)
  (G21:Gf K "places_for" (top 33) f21 d21)
  (G22:Gf K "stands_for_all" (top 34) f22 d22)
  (G23:Gf K "block_holds" (top 35) f23 d23)
  (G24:Gf K "pack_holds" (top 36) f24 d24)
  (G25:Gf K "block_bit" (top 38) f25 d25)
  (G26:Gf K "_law_next" (top 44) f26 d26)
  (G27:Gf K "_law_some_bits" (top 45) f27 d27)
  (G28:Gf K "_law_same" (top 46) f28 d28)
  (G29:Gf K "_law_drawn_place" (top 47) f29 d29)
  (G30:Gf K "_law_tables_lists" (top 48) f30 d30)
  (G31:Gf K "_law_due_pack" (top 49) f31 d31)
  (G32:Gf K "_law_by" (top 50) f32 d32)
  (G33:Gf K "_law_pair_right" (top 51) f33 d33)
  (G34:Gf K "_law_played" (top 52) f34 d34)
  (G35:Gf K "_law_round" (top 53) f35 d35)
  (G36:Gf K "law" (top 54) f36 d36)
  (a37:findIn K (.ref CP) "__init__" = some (some (.ref f37))) (F37:Fun K "__init__" "Pack.__init__" (inClass (top 26) 0) f37 d37) (i37:isFn K (.ref f37)=true)
  (a38:findIn K (.ref CT) "__init__" = some (some (.ref f38))) (F38:Fun K "__init__" "Tables.__init__" (inClass (top 17) 0) f38 d38) (i38:isFn K (.ref f38)=true)
  (a39:findIn K (.ref CQ) "__init__" = some (some (.ref f39))) (F39:Fun K "__init__" "TablePlayer.__init__" (inClass (top 42) 0) f39 d39) (i39:isFn K (.ref f39)=true)
  (a40:findIn K (.ref CQ) "beat" = some (some (.ref f40))) (F40:Fun K "beat" "TablePlayer.beat" (inClass (top 42) 1) f40 d40) (i40:isFn K (.ref f40)=true)
  (a41:findIn K (.ref CQ) "held" = some (some (.ref f41))) (F41:Fun K "held" "TablePlayer.held" (inClass (top 42) 2) f41 d41) (i41:isFn K (.ref f41)=true)
  (a42:findIn K (.ref CY) "__init__" = some (some (.ref f42))) (F42:Fun K "__init__" "PackPlayer.__init__" (inClass (top 40) 0) f42 d42) (i42:isFn K (.ref f42)=true)
  (a43:findIn K (.ref CY) "beat" = some (some (.ref f43))) (F43:Fun K "beat" "BlockPlayer.beat" (inClass (top 39) 1) f43 d43) (i43:isFn K (.ref f43)=true)
  (a44:findIn K (.ref CY) "held" = some (some (.ref f44))) (F44:Fun K "held" "BlockPlayer.held" (inClass (top 39) 2) f44 d44) (i44:isFn K (.ref f44)=true)
  (a45:PySem.W.findCls K (.ref BB) (.type "type") "__init__" = some (.val (.ref f45))) (F45:Fun K "__init__" "BlockPlayer.__init__" (inClass (top 39) 0) f45 d45)
  (pgP:PySem.W.plainGet K CP Str.empty=true) (hdP:PySem.W.hasDictIn K CP=true) (poP:PySem.W.plainOver K CP=true) (saP:findIn K (.ref CP) "__setattr__" = some (some (.builtin "object.__setattr__"))) (mkP:PySem.W.makesIn K CP=true) (kcP:PySem.W.keepIn K (.ref CP)=true)
  (nP_ins:findIn K (.ref CP) "ins" = some none)
  (nP_blocks:findIn K (.ref CP) "blocks" = some none)
  (nP_outs:findIn K (.ref CP) "outs" = some none)
  (pgT:PySem.W.plainGet K CT Str.empty=true) (hdT:PySem.W.hasDictIn K CT=true) (poT:PySem.W.plainOver K CT=true) (saT:findIn K (.ref CT) "__setattr__" = some (some (.builtin "object.__setattr__"))) (mkT:PySem.W.makesIn K CT=true) (kcT:PySem.W.keepIn K (.ref CT)=true)
  (nT_ins:findIn K (.ref CT) "ins" = some none)
  (nT_tables:findIn K (.ref CT) "tables" = some none)
  (nT_keeps:findIn K (.ref CT) "keeps" = some none)
  (nT_outs:findIn K (.ref CT) "outs" = some none)
  (pgQ:PySem.W.plainGet K CQ Str.empty=true) (hdQ:PySem.W.hasDictIn K CQ=true) (poQ:PySem.W.plainOver K CQ=true) (saQ:findIn K (.ref CQ) "__setattr__" = some (some (.builtin "object.__setattr__"))) (mkQ:PySem.W.makesIn K CQ=true) (kcQ:PySem.W.keepIn K (.ref CQ)=true)
  (nQ_ins:findIn K (.ref CQ) "ins" = some none)
  (nQ_tables:findIn K (.ref CQ) "tables" = some none)
  (nQ_keeps:findIn K (.ref CQ) "keeps" = some none)
  (nQ_outs:findIn K (.ref CQ) "outs" = some none)
  (nQ_kept:findIn K (.ref CQ) "kept" = some none)
  (pgY:PySem.W.plainGet K CY Str.empty=true) (hdY:PySem.W.hasDictIn K CY=true) (poY:PySem.W.plainOver K CY=true) (saY:findIn K (.ref CY) "__setattr__" = some (some (.builtin "object.__setattr__"))) (mkY:PySem.W.makesIn K CY=true) (kcY:PySem.W.keepIn K (.ref CY)=true)
  (nY_ins:findIn K (.ref CY) "ins" = some none)
  (nY_blocks:findIn K (.ref CY) "blocks" = some none)
  (nY_outs:findIn K (.ref CY) "outs" = some none)
  (nY_order:findIn K (.ref CY) "order" = some none)
  (nY_kept:findIn K (.ref CY) "kept" = some none)
  (z_len:nsIn K mainGlobals "len" = some none)
  (z_range:nsIn K mainGlobals "range" = some none)
  (z_int:nsIn K mainGlobals "int" = some none)
  (z_str:nsIn K mainGlobals "str" = some none)
  (z_isinstance:nsIn K mainGlobals "isinstance" = some none)
  (z_zip:nsIn K mainGlobals "zip" = some none)
  (z_list:nsIn K mainGlobals "list" = some none)
  (z_tuple:nsIn K mainGlobals "tuple" = some none)
  (z_dict:nsIn K mainGlobals "dict" = some none)
  (z_bool:nsIn K mainGlobals "bool" = some none)
  (z_all:nsIn K mainGlobals "all" = some none)
  (z_enumerate:nsIn K mainGlobals "enumerate" = some none)
  (z_sum:nsIn K mainGlobals "sum" = some none)
  (z_sorted:nsIn K mainGlobals "sorted" = some none)
  (z_set:nsIn K mainGlobals "set" = some none)
  (z_min:nsIn K mainGlobals "min" = some none)
  (xsg:PySem.W.specialIn K (.builtin "object.__class__") "__get__" = some (some (.builtin "getset_descriptor.__get__"))) (xtk:PySem.W.takesIn K (.builtin "object.__class__")=some true)
  (oclP:findIn K (.ref CP) "__class__" = some (some (.builtin "object.__class__"))) (omoP:PySem.W.mroIn K CP (.type "object")=some true) (owP:PySem.W.kitOne K (.ref CP) (.ref CP)=some true) :
  ∃ fd:FuncData,(∀ (s:Shared) (v:Value),BindsTo s fd ⟨[v],[]⟩ [("_law_script",v)])/\∀ base:Heap,K.In base->base.Ns mainGlobals mg->FnOk l.prog w K mg base CX0 13 fa fd ["_law_script"] (spLaw K):=by
 have e:=hfa.symm.trans (mg_of X G G36.a);cases e;have b0:=G0.F.binds (ps:=["thing"]) fun _ _ _ _ _ _=>ll1 (fun _=>rfl)
 have b1:=G1.F.binds (ps:=["thing", "bound"]) fun _ _ _ _ _ _=>ll2 (fun _ _=>rfl)
 have b2:=G2.F.binds (ps:=["thing"]) fun _ _ _ _ _ _=>ll1 (fun _=>rfl)
 have b3:=G3.F.binds (ps:=["thing", "counts"]) fun _ _ _ _ _ _=>ll2 (fun _ _=>rfl)
 have b4:=G4.F.binds (ps:=["row", "length"]) fun _ _ _ _ _ _=>ll2 (fun _ _=>rfl)
 have b5:=G5.F.binds (ps:=["row", "wides"]) fun _ _ _ _ _ _=>ll2 (fun _ _=>rfl)
 have b6:=G6.F.binds (ps:=["row", "length"]) fun _ _ _ _ _ _=>ll2 (fun _ _=>rfl)
 have b7:=G7.F.binds (ps:=["thing", "counts"]) fun _ _ _ _ _ _=>ll2 (fun _ _=>rfl)
 have b8:=G8.F.binds (ps:=["thing", "counts"]) fun _ _ _ _ _ _=>ll2 (fun _ _=>rfl)
 have b9:=G9.F.binds (ps:=["ins", "tables", "keeps", "outs"]) fun _ _ _ _ _ _=>ll4 (fun _ _ _ _=>rfl)
 have b10:=G10.F.binds (ps:=["bits", "fed"]) fun _ _ _ _ _ _=>ll2 (fun _ _=>rfl)
 have b11:=G11.F.binds (ps:=["thing", "counts"]) fun _ _ _ _ _ _=>ll2 (fun _ _=>rfl)
 have b12:=G12.F.binds (ps:=["blocks", "number"]) fun _ _ _ _ _ _=>ll2 (fun _ _=>rfl)
 have b13:=G13.F.binds (ps:=["blocks"]) fun _ _ _ _ _ _=>ll1 (fun _=>rfl)
 have b14:=G14.F.binds (ps:=["blocks"]) fun _ _ _ _ _ _=>ll1 (fun _=>rfl)
 have b15:=G15.F.binds (ps:=["ins", "blocks", "outs"]) fun _ _ _ _ _ _=>ll3 (fun _ _ _=>rfl)
 have b16:=G16.F.binds (ps:=["tables", "place"]) fun _ _ _ _ _ _=>ll2 (fun _ _=>rfl)
 have b17:=G17.F.binds (ps:=["places"]) fun _ _ _ _ _ _=>ll1 (fun _=>rfl)
 have b18:=G18.F.binds (ps:=["tables"]) fun _ _ _ _ _ _=>ll1 (fun _=>rfl)
 have b19:=G19.F.binds (ps:=["places", "numbers"]) fun _ _ _ _ _ _=>ll2 (fun _ _=>rfl)
 have b20:=G20.F.binds (ps:=["tables"]) fun _ _ _ _ _ _=>ll1 (fun _=>rfl)
 have b21:=G21.F.binds (ps:=["sources", "paper"]) fun _ _ _ _ _ _=>ll2 (fun _ _=>rfl)
 have b22:=G22.F.binds (ps:=["tables", "paper"]) fun _ _ _ _ _ _=>ll2 (fun _ _=>rfl)
 have b23:=G23.F.binds (ps:=["tables", "block", "place", "paper"]) fun _ _ _ _ _ _=>ll4 (fun _ _ _ _=>rfl)
 have b24:=G24.F.binds (ps:=["tables", "pack", "paper"]) fun _ _ _ _ _ _=>ll3 (fun _ _ _=>rfl)
 have b25:=G25.F.binds (ps:=["block", "had"]) fun _ _ _ _ _ _=>ll2 (fun _ _=>rfl)
 have b26:=G26.F.binds (ps:=["_law_script", "_law_at"]) fun _ _ _ _ _ _=>ll2 (fun _ _=>rfl)
 have b27:=G27.F.binds (ps:=["_law_script", "_law_at", "_law_many"]) fun _ _ _ _ _ _=>ll3 (fun _ _ _=>rfl)
 have b28:=G28.F.binds (ps:=["_law_found", "_law_due"]) fun _ _ _ _ _ _=>ll2 (fun _ _=>rfl)
 have b29:=G29.F.binds (ps:=["_law_script", "_law_at", "_law_ins", "_law_keeps", "_law_tables"]) fun _ _ _ _ _ _=>ll5 (fun _ _ _ _ _=>rfl)
 have b30:=G30.F.binds (ps:=["_law_script", "_law_at", "_law_ins", "_law_keeps", "_law_many", "_law_outs"]) fun _ _ _ _ _ _=>ll6 (fun _ _ _ _ _ _=>rfl)
 have b31:=G31.F.binds (ps:=["_law_tables", "_law_holds", "_law_ends"]) fun _ _ _ _ _ _=>ll3 (fun _ _ _=>rfl)
 have b32:=G32.F.binds (ps:=["_law_paper", "_law_place"]) fun _ _ _ _ _ _=>ll2 (fun _ _=>rfl)
 have b33:=G33.F.binds (ps:=["_law_found", "_law_ins", "_law_due"]) fun _ _ _ _ _ _=>ll3 (fun _ _ _=>rfl)
 have b34:=G34.F.binds (ps:=["_law_script", "_law_at", "_law_tables", "_law_pack", "_law_many"]) fun _ _ _ _ _ _=>ll5 (fun _ _ _ _ _=>rfl)
 have b35:=G35.F.binds (ps:=["_law_script", "_law_at"]) fun _ _ _ _ _ _=>ll2 (fun _ _=>rfl)
 have b37:=F37.binds (ps:=["self", "ins", "blocks", "outs"]) fun _ _ _ _ _ _=>ll4 (fun _ _ _ _=>rfl)
 have b38:=F38.binds (ps:=["self", "ins", "tables", "keeps", "outs"]) fun _ _ _ _ _ _=>ll5 (fun _ _ _ _ _=>rfl)
 have b39:=F39.binds (ps:=["self", "tables"]) fun _ _ _ _ _ _=>ll2 (fun _ _=>rfl)
 have b40:=F40.binds (ps:=["self", "row"]) fun _ _ _ _ _ _=>ll2 (fun _ _=>rfl)
 have b41:=F41.binds (ps:=["self"]) fun _ _ _ _ _ _=>ll1 (fun _=>rfl)
 have b42:=F42.binds (ps:=["self", "pack"]) fun _ _ _ _ _ _=>ll2 (fun _ _=>rfl)
 have b43:=F43.binds (ps:=["self", "row"]) fun _ _ _ _ _ _=>ll2 (fun _ _=>rfl)
 have b44:=F44.binds (ps:=["self"]) fun _ _ _ _ _ _=>ll1 (fun _=>rfl)
 have b45:=F45.binds (ps:=["self", "ins", "blocks", "outs"]) fun _ _ _ _ _ _=>ll4 (fun _ _ _ _=>rfl)
 have z_len:=mg_none_of X G z_len;have z_range:=mg_none_of X G z_range;have z_int:=mg_none_of X G z_int;have z_str:=mg_none_of X G z_str;have z_isinstance:=mg_none_of X G z_isinstance;have z_zip:=mg_none_of X G z_zip;have z_list:=mg_none_of X G z_list;have z_tuple:=mg_none_of X G z_tuple;have z_dict:=mg_none_of X G z_dict;have z_bool:=mg_none_of X G z_bool;have z_all:=mg_none_of X G z_all;have z_enumerate:=mg_none_of X G z_enumerate;have z_sum:=mg_none_of X G z_sum;have z_sorted:=mg_none_of X G z_sorted;have z_set:=mg_none_of X G z_set;have z_min:=mg_none_of X G z_min;have mP:=mg_of X G aP;have clP:Cls K CP:=⟨pgP,hdP,poP,saP⟩;have mT:=mg_of X G aT;have clT:Cls K CT:=⟨pgT,hdT,poT,saT⟩;have mQ:=mg_of X G aQ;have clQ:Cls K CQ:=⟨pgQ,hdQ,poQ,saQ⟩;have mY:=mg_of X G aY;have clY:Cls K CY:=⟨pgY,hdY,poY,saY⟩;have mBB:=mg_of X G aBB;have m_SILENCE:=mg_of X G aSSILENCE;obtain ⟨_,_,_,_,_,_,_,_,_,ef,_⟩:=G36.F.ex;refine ⟨d36,fun s v=>by rw [ef]; exact .of_eq rfl,fun base _ _=>?_⟩
 have D:=@D0 l w K h mg base CX0 X G;have sil:SilK K SSILENCE:=⟨fun H=>.inr ⟨_,_,_,lSSILENCE,rfl,rfl,(by show 2<=sizeLine; rw [BR]; decide),.cons ⟨_,rfl⟩ (.cons ⟨_,rfl⟩ .nil)⟩⟩
 have D_is_whole_1:=D G0 b0 (yT (k:=0) G0.F z_isinstance z_int z_bool);have D_is_listed_1:=D G2 b2 (yV (k:=0) G2.F z_isinstance z_list z_tuple);have D_is_below_2:=D G1 b1 (yU (k:=1) G1.F D_is_whole_1);have D_is_place_3:=D G3 b3 (yW (k:=2) G3.F D_is_below_2 z_isinstance z_tuple z_str z_len);have D_is_table_4:=D G7 b7 (yY (k:=3) G7.F (D_is_below_2.mono (by decide)) (D_is_listed_1.mono (by decide)) D_is_place_3 z_isinstance z_tuple z_all z_len)
 have D_is_keep_4:=D G8 b8 (zQ (k:=3) G8.F (D_is_below_2.mono (by decide)) D_is_place_3 z_isinstance z_tuple z_len)
 have D_ask_tables_5:=D G9 b9 (zV (k:=4) G9.F (D_is_whole_1.mono (by decide)) (D_is_listed_1.mono (by decide)) D_is_table_4 D_is_keep_4 (D_is_place_3.mono (by decide)) z_len z_all z_enumerate)
 have MkT:MakeOk l.prog w K mg base CX0 6 CT "Tables" ["self", "ins", "tables", "keeps", "outs"] (spTabs CT):=⟨⟨f38,_,zY (k:=5) F38 clT nT_ins nT_tables nT_keeps nT_outs D_ask_tables_5 z_tuple,b38,⟨mkT,a38,i38,kcT⟩,mT⟩⟩;have D_is_block_5:=D G11 b11 (yZ (k:=4) G11.F (D_is_below_2.mono (by decide)) D_is_table_4 z_isinstance z_tuple z_len)
 have D_loose_sources_1:=D G12 b12 (y0 (k:=0) G12.F);have D_loose_order_2:=D G13 b13 (zg (k:=1) G13.F D_loose_sources_1 z_enumerate z_len z_dict);have D_has_ring_3:=D G14 b14 (zh (k:=2) G14.F D_loose_order_2 z_len);have D_ask_pack_6:=D G15 b15 (zp (k:=5) G15.F (D_is_whole_1.mono (by decide)) (D_is_listed_1.mono (by decide)) D_is_block_5 (D_is_place_3.mono (by decide)) (D_has_ring_3.mono (by decide)) z_len z_all)
 have MkP:MakeOk l.prog w K mg base CX0 7 CP "Pack" ["self", "ins", "blocks", "outs"] (spPack CP):=⟨⟨f37,_,zr (k:=6) F37 clP nP_ins nP_blocks nP_outs D_ask_pack_6 z_tuple,b37,⟨mkP,a37,i37,kcP⟩,mP⟩⟩;have D_ask_length_2:=D G4 b4 (zB (k:=1) G4.F D_is_listed_1 z_len);have D_ask_values_3:=D G5 b5 (zC (k:=2) G5.F D_ask_length_2 D_is_below_2 z_len z_zip);have D_ask_bits_4:=D G6 b6 (zD (k:=3) G6.F (D_ask_length_2.mono (by decide)) D_ask_values_3 z_len)
 have D_table_bit_1:=D G10 b10 (zE (k:=0) G10.F z_sum z_enumerate);have D_block_bit_2:=D G25 b25 (zF (k:=1) G25.F D_table_bit_1);have KB:ClsOk l.prog w K mg base CX0 3 "BlockPlayer" "__init__" ["self", "ins", "blocks", "outs"] (spBP CY):=⟨BB,f45,_,zI (k:=2) F45 clY nY_ins nY_blocks nY_outs nY_order nY_kept D_loose_order_2 z_enumerate z_dict,b45,⟨hBB,rBB,a45,F45.kp⟩,mBB⟩;have MkY:MakeOk l.prog w K mg base CX0 4 CY "PackPlayer" ["self", "pack"] (spPP CP CY):=⟨⟨f42,_,zJ (k:=3) F42 clP nP_ins nP_blocks nP_outs KB,b42,⟨mkY,a42,i42,kcY⟩,mY⟩⟩;have MYB:MethOk l.prog w K mg base CX0 5 CY "beat" ["self", "row"] (spBt CY):=⟨clY,f43,_,zO (k:=4) F43 clY nY_ins nY_blocks nY_outs nY_order nY_kept D_ask_bits_4 (D_block_bit_2.mono (by decide)) z_list z_dict m_SILENCE sil,b43,⟨a43,i43,F43.kp⟩⟩
 have MYH:MethOk l.prog w K mg base CX0 1 CY "held" ["self"] (spHd CY):=⟨clY,f44,_,zK (k:=0) F44 clY nY_kept z_list,b44,⟨a44,i44,F44.kp⟩⟩;have MkQ:MakeOk l.prog w K mg base CX0 1 CQ "TablePlayer" ["self", "tables"] (spPl CT CQ):=⟨⟨f39,_,z5 (k:=0) F39 clT nT_ins nT_tables nT_keeps nT_outs clQ nQ_ins nQ_tables nQ_keeps nQ_outs nQ_kept,b39,⟨mkQ,a39,i39,kcQ⟩,mQ⟩⟩;have MQB:MethOk l.prog w K mg base CX0 5 CQ "beat" ["self", "row"] (spTbt CQ):=⟨clQ,f40,_,z7 (k:=4) F40 clQ nQ_ins nQ_tables nQ_keeps nQ_outs nQ_kept D_ask_bits_4 (D_table_bit_1.mono (by decide)) z_list,b40,⟨a40,i40,F40.kp⟩⟩
 have MQH:MethOk l.prog w K mg base CX0 1 CQ "held" ["self"] (spHeld CQ):=⟨clQ,f41,_,z6 (k:=0) F41 clQ nQ_kept z_list,b41,⟨a41,i41,F41.kp⟩⟩;have D_table_numbers_1:=D G17 b17 (z8 (k:=0) G17.F);have D_kept_table_1:=D G16 b16 (z9 (k:=0) G16.F clT nT_tables);have D_wanted_tables_2:=D G18 b18 (Ah (k:=1) G18.F clT nT_tables nT_keeps nT_outs D_table_numbers_1 D_kept_table_1 z_len z_sorted);have D_sources_for_1:=D G19 b19 (Am (k:=0) G19.F);have D_packed_9:=D G20 b20 (Ap (k:=7) G20.F clT nT_ins nT_tables nT_keeps nT_outs (D_wanted_tables_2.mono (by decide)) (D_kept_table_1.mono (by decide)) (D_sources_for_1.mono (by decide)) MkP z_range z_len z_dict z_enumerate)
 have D_places_for_1:=D G21 b21 (Aa (k:=0) G21.F z_tuple);have D_stands_for_all_4:=D G22 b22 (Ak (k:=3) G22.F clT nT_keeps nT_tables D_is_place_3 z_len z_all z_set z_range);have D_block_holds_2:=D G23 b23 (As (k:=1) G23.F clT nT_tables nT_keeps D_places_for_1 D_kept_table_1);have D_pack_holds_5:=D G24 b24 (Az (k:=4) G24.F clT nT_ins nT_outs clP nP_ins nP_blocks nP_outs (D_is_listed_1.mono (by decide)) D_stands_for_all_4 (D_places_for_1.mono (by decide)) (D_block_holds_2.mono (by decide)) z_len z_all z_tuple z_zip)
 have D__law_next_1:=D G26 b26 (zt (k:=0) G26.F z_len z_range);have D__law_some_bits_2:=D G27 b27 (zu (k:=1) G27.F D__law_next_1 z_range);have D__law_same_1:=D G28 b28 (AD (k:=0) G28.F);have D__law_same_2:=D G28 b28 (fU 0 (k:=1) G28.F D__law_same_1 z_isinstance z_dict z_list z_tuple z_str z_int z_bool z_len z_all z_zip);have D__law_same_3:=D G28 b28 (fU 1 (k:=2) G28.F D__law_same_2 z_isinstance z_dict z_list z_tuple z_str z_int z_bool z_len z_all z_zip);have D__law_same_4:=D G28 b28 (fU 2 (k:=3) G28.F D__law_same_3 z_isinstance z_dict z_list z_tuple z_str z_int z_bool z_len z_all z_zip);have D__law_same_5:=D G28 b28 (fU 3 (k:=4) G28.F D__law_same_4 z_isinstance z_dict z_list z_tuple z_str z_int z_bool z_len z_all z_zip);have D__law_same_6:=D G28 b28 (fU 4 (k:=5) G28.F D__law_same_5 z_isinstance z_dict z_list z_tuple z_str z_int z_bool z_len z_all z_zip);have D__law_drawn_place_2:=D G29 b29 (AM (k:=1) G29.F D__law_next_1 z_min);have D__law_tables_lists_3:=D G30 b30 (AQ (k:=2) G30.F (D__law_next_1.mono (by decide)) D__law_drawn_place_2 z_range z_len)
 have D__law_by_1:=D G32 b32 (AR (k:=0) G32.F);have D__law_due_pack_2:=D G31 b31 (AZ (k:=1) G31.F D__law_by_1 z_list z_range z_len z_tuple);have D__law_pair_right_7:=D G33 b33 (A2 (k:=6) G33.F D__law_same_6 mP clP nP_ins nP_blocks nP_outs oclP xsg xtk omoP owP z_isinstance z_tuple z_len);have D__law_played_10:=D G34 b34 (Bj (k:=8) G34.F clP nP_ins (D__law_some_bits_2.mono (by decide)) (MQB.mono (by decide)) (MQH.mono (by decide)) (MYB.mono (by decide)) (MYH.mono (by decide)) (MkQ.mono (by decide)) (MkY.mono (by decide)) z_range z_list)
 have D__law_round_12:=D G35 b35 (Bx (k:=10) G35.F (D__law_next_1.mono (by decide)) (D__law_tables_lists_3.mono (by decide)) (MkT.mono (by decide)) (D__law_due_pack_2.mono (by decide)) (D_packed_9.mono (by decide)) (D__law_pair_right_7.mono (by decide)) (D_pack_holds_5.mono (by decide)) (D__law_played_10.mono (by decide)) z_tuple z_list)
 exact BA (k:=12) G36.F D__law_round_12 z_range z_len
end

end B17
open PySem PySem.W PyProof.Rows
theorem PySem.W.Fast.tw7799601793813462774:True:=trivial
theorem PySem.W.Fast.tw15485093156232946401:True:=trivial
theorem PySem.W.Fast.tw3739313960229895261:True:=trivial
theorem PySem.W.Fast.tw5002883275810626460:True:=trivial
theorem PySem.W.Fast.tw8902261571282960671:True:=trivial
theorem PySem.W.Fast.tw11696509938978785389:True:=trivial
theorem PySem.W.Fast.tw10611083697823475220:True:=trivial
theorem PySem.W.Fast.tw6171807345851346402:True:=trivial
theorem PySem.W.Fast.tw13308795522044887491:True:=trivial
theorem PySem.W.Fast.tw15974039940103319004:True:=trivial
theorem PySem.W.Fast.tw9858470114608042803:True:=trivial
theorem PySem.W.Fast.tw15865875087214827722:True:=trivial
theorem PySem.W.Fast.tw12539513260795519315:True:=trivial
theorem PySem.W.Fast.tw5066995845194852768:True:=trivial
theorem PySem.W.Fast.tw12281502554479970134:True:=trivial
theorem PySem.W.Fast.tw15101935573205508987:True:=trivial
theorem PySem.W.Fast.tw16091250018727747082:True:=trivial
theorem PySem.W.Fast.tw7974414007908362139:True:=trivial
theorem PySem.W.Fast.tw1756597051351501293:True:=trivial
theorem PySem.W.Fast.tw9282754961793613219:True:=trivial
theorem PySem.W.Fast.tw3282016804034511749:True:=trivial
theorem PySem.W.Fast.tw8651394329109479593:True:=trivial
theorem PySem.W.Fast.tw760286631954761923:True:=trivial
theorem PySem.W.Fast.tw13396141791627670617:True:=trivial
theorem PySem.W.Fast.tw13766088492728070709:True:=trivial
theorem PySem.W.Fast.tw13956397286810308324:True:=trivial
theorem PySem.W.Fast.tw15589067419111575071:True:=trivial
theorem PySem.W.Fast.tw5283412820398079839:True:=trivial
theorem PySem.W.Fast.tw15388688868425671294:True:=trivial
theorem PySem.W.Fast.tw3758251135351958504:True:=trivial
theorem PySem.W.Fast.tw15687942224622658405:True:=trivial
theorem PySem.W.Fast.tw4090939644700195302:True:=trivial
theorem PySem.W.Fast.tw11899028202359631702:True:=trivial
theorem PySem.W.Fast.tw13020095727681702996:True:=trivial
theorem PySem.W.Fast.tw2227151189657253830:True:=trivial
theorem PySem.W.Fast.tw4482169297791781566:True:=trivial
theorem PySem.W.Fast.tw18334813724678613340:True:=trivial
theorem PySem.W.Fast.tw9084501519196122801:True:=trivial
theorem PySem.W.Fast.tw3874248558852283830:True:=trivial
theorem PySem.W.Fast.tw3686639959262943985:True:=trivial
theorem PySem.W.Fast.tw11437732358489578174:True:=trivial
theorem PySem.W.Fast.tw10021841941495963413:True:=trivial
theorem PySem.W.Fast.tw10554343193962102299:True:=trivial
theorem PySem.W.Fast.tw15991824449045655380:True:=trivial
theorem PySem.W.Fast.tw11348805607686079936:True:=trivial
theorem PySem.W.Fast.tw10880421528766737437:True:=trivial
theorem PySem.W.Fast.tw1679623893622628690:True:=trivial
theorem PySem.W.Fast.tw17215836118611592727:True:=trivial
theorem PySem.W.Fast.tw11669711114533837255:True:=trivial
theorem PySem.W.Fast.tw13751116865320703111:True:=trivial
theorem PySem.W.Fast.tw16373418260268232798:True:=trivial
theorem PySem.W.Fast.tw11290799623796636484:True:=trivial
theorem PySem.W.Fast.tw4518543580800876685:True:=trivial
theorem PySem.W.Fast.tw16204452348071978301:True:=trivial
theorem PySem.W.Fast.tw7345001984385217667:True:=trivial
theorem PySem.W.Fast.tw11293971069055998893:True:=trivial
theorem PySem.W.Fast.tw3208946179554670028:True:=trivial
theorem PySem.W.Fast.tw4587677429196570707:True:=trivial
theorem PySem.W.Fast.tw9581332072692846907:True:=trivial
theorem PySem.W.Fast.tw1655765436913721889:True:=trivial
theorem PySem.W.Fast.tw15283971952328527629:True:=trivial
theorem PySem.W.Fast.tw4964917835450706960:True:=trivial
theorem PySem.W.Fast.tw5132280353680038462:True:=trivial
theorem PySem.W.Fast.tw13448343224493676018:True:=trivial
theorem PySem.W.Fast.tw150500459561392261:True:=trivial
theorem PySem.W.Fast.tw2794600913676147138:True:=trivial
theorem PySem.W.Fast.tw9153064022351450165:True:=trivial
theorem PySem.W.Fast.tw12597060025733338227:True:=trivial
theorem PySem.W.Fast.tw16242264962972939699:True:=trivial
theorem PySem.W.Fast.tw16168828685307195595:True:=trivial
theorem PySem.W.Fast.tw11689472211884157430:True:=trivial
theorem PySem.W.Fast.tw8350633119718084132:True:=trivial
theorem PySem.W.Fast.tw6962871281364219916:True:=trivial
theorem PySem.W.Fast.tw12550304971887769240:True:=trivial
theorem PySem.W.Fast.tw8422493137610659241:True:=trivial
theorem PySem.W.Fast.tw2815644615324679873:True:=trivial
theorem PySem.W.Fast.tw8794009723409607437:True:=trivial
theorem PySem.W.Fast.tw10330187765302038660:True:=trivial
theorem PySem.W.Fast.tw2653238061864329004:True:=trivial
theorem PySem.W.Fast.tw11095220048032247340:True:=trivial
theorem PySem.W.Fast.tw12833946435528919128:True:=trivial
theorem PySem.W.Fast.tw5930522337595162168:True:=trivial
theorem PySem.W.Fast.tw2611070258610868442:True:=trivial
theorem PySem.W.Fast.tw17718883728406136723:True:=trivial
theorem PySem.W.Fast.tw1570908668042509354:True:=trivial
theorem PySem.W.Fast.tw8851235841849973922:True:=trivial
theorem PySem.W.Fast.tw6002292506305942052:True:=trivial
theorem PySem.W.Fast.tw9058944046160668085:True:=trivial
theorem PySem.W.Fast.tw15284879816039431858:True:=trivial
theorem PySem.W.Fast.tw14771715263286552239:True:=trivial
theorem PySem.W.Fast.tw112036533442163730:True:=trivial
theorem PySem.W.Fast.tw5850453429248172910:True:=trivial
theorem PySem.W.Fast.tw4837697446687165445:True:=trivial
theorem PySem.W.Fast.tw6782524422109047079:True:=trivial
theorem PySem.W.Fast.tw15132343724381884158:True:=trivial
theorem PySem.W.Fast.tw9704584076084535083:True:=trivial
theorem PySem.W.Fast.tw12473033781534060434:True:=trivial
theorem PySem.W.Fast.tw16023775903318099589:True:=trivial
theorem PySem.W.Fast.tw5639782353087459794:True:=trivial
theorem PySem.W.Fast.tw17273065433432771974:True:=trivial
theorem PySem.W.Fast.tw17155864624514036293:True:=trivial
theorem PySem.W.Fast.tw4690629483938486064:True:=trivial
theorem PySem.W.Fast.tw8895197346140782103:True:=trivial
theorem PySem.W.Fast.tw4783326748133424165:True:=trivial
theorem PySem.W.Fast.tw3677381342619376829:True:=trivial
theorem PySem.W.Fast.tw2060930251151210027:True:=trivial
theorem PySem.W.Fast.tw2200620708842498747:True:=trivial
theorem PySem.W.Fast.tw15654769148976368678:True:=trivial
theorem PySem.W.Fast.tw74692725341871284:True:=trivial
theorem PySem.W.Fast.tw4575791372290719888:True:=trivial
theorem PySem.W.Fast.tw14014626541924683684:True:=trivial
theorem PySem.W.Fast.tw6821800970134417004:True:=trivial
theorem PySem.W.Fast.tw6782756302003024018:True:=trivial
theorem PySem.W.Fast.tw3250440745523049272:True:=trivial
theorem PySem.W.Fast.tw16101332355181853361:True:=trivial
theorem PySem.W.Fast.tw2214031767410555724:True:=trivial
theorem PySem.W.Fast.tw14842677865531869165:True:=trivial
theorem PySem.W.Fast.tw1849917073084430672:True:=trivial
theorem PySem.W.Fast.tw9799511018987390839:True:=trivial
theorem PySem.W.Fast.tw14736053240598232938:True:=trivial
theorem PySem.W.Fast.tw17779859088644663740:True:=trivial
set_option maxRecDepth 100000 in
set_option maxHeartbeats 0 in
theorem PySem.Challenge.cw_bitfloor_k43_packed_holds : PySem.Challenge.rw_bitfloor_k43_packed.Holds := by
 w_on; o_law; k_head; (case hw=>w_witness2)
 k_fill
 refine L2.vX (l:=PySem.Challenge.rw_bitfloor_k43_packed) (n:=63) (k:=13) (x := "_law_script") (CX:=L2.CX0) (sp:=B17.spLaw) rfl (by decide) rfl ⟨rfl,by decide,by decide⟩ (fun w h Y=>PySem.W.kIn_of Y) ?F ?S ?C
 case F =>
  intro w mg fa h KX G hmg
  refine' B17.BD KX G hmg ?aBB ?hBB ?rBB ?aSSILENCE ?lSSILENCE ?aP ?aT ?aQ ?aY ⟨?a0,L2.aG ?l0 ?c0 ?k0⟩ ⟨?a1,L2.aG ?l1 ?c1 ?k1⟩ ⟨?a2,L2.aG ?l2 ?c2 ?k2⟩ ⟨?a3,L2.aG ?l3 ?c3 ?k3⟩ ⟨?a4,L2.aG ?l4 ?c4 ?k4⟩ ⟨?a5,L2.aG ?l5 ?c5 ?k5⟩ ⟨?a6,L2.aG ?l6 ?c6 ?k6⟩ ⟨?a7,L2.aG ?l7 ?c7 ?k7⟩ ⟨?a8,L2.aG ?l8 ?c8 ?k8⟩ ⟨?a9,L2.aG ?l9 ?c9 ?k9⟩ ⟨?a10,L2.aG ?l10 ?c10 ?k10⟩ ⟨?a11,L2.aG ?l11 ?c11 ?k11⟩ ⟨?a12,L2.aG ?l12 ?c12 ?k12⟩ ⟨?a13,L2.aG ?l13 ?c13 ?k13⟩ ⟨?a14,L2.aG ?l14 ?c14 ?k14⟩ ⟨?a15,L2.aG ?l15 ?c15 ?k15⟩ ⟨?a16,L2.aG ?l16 ?c16 ?k16⟩ ⟨?a17,L2.aG ?l17 ?c17 ?k17⟩ ⟨?a18,L2.aG ?l18 ?c18 ?k18⟩ ⟨?a19,L2.aG ?l19 ?c19 ?k19⟩ ⟨?a20,L2.aG ?l20 ?c20 ?k20⟩ ⟨?a21,L2.aG ?l21 ?c21 ?k21⟩ ⟨?a22,L2.aG ?l22 ?c22 ?k22⟩ ⟨?a23,L2.aG ?l23 ?c23 ?k23⟩ ⟨?a24,L2.aG ?l24 ?c24 ?k24⟩ ⟨?a25,L2.aG ?l25 ?c25 ?k25⟩ ⟨?a26,L2.aG ?l26 ?c26 ?k26⟩ ⟨?a27,L2.aG ?l27 ?c27 ?k27⟩ ⟨?a28,L2.aG ?l28 ?c28 ?k28⟩ ⟨?a29,L2.aG ?l29 ?c29 ?k29⟩ ⟨?a30,L2.aG ?l30 ?c30 ?k30⟩ ⟨?a31,L2.aG ?l31 ?c31 ?k31⟩ ⟨?a32,L2.aG ?l32 ?c32 ?k32⟩ ⟨?a33,L2.aG ?l33 ?c33 ?k33⟩ ⟨?a34,L2.aG ?l34 ?c34 ?k34⟩ ⟨?a35,L2.aG ?l35 ?c35 ?k35⟩ ⟨?a36,L2.aG ?l36 ?c36 ?k36⟩ ?a37 (L2.aG ?l37 ?c37 ?k37) ?i37 ?a38 (L2.aG ?l38 ?c38 ?k38) ?i38 ?a39 (L2.aG ?l39 ?c39 ?k39) ?i39 ?a40 (L2.aG ?l40 ?c40 ?k40) ?i40 ?a41 (L2.aG ?l41 ?c41 ?k41) ?i41 ?a42 (L2.aG ?l42 ?c42 ?k42) ?i42 ?a43 (L2.aG ?l43 ?c43 ?k43) ?i43 ?a44 (L2.aG ?l44 ?c44 ?k44) ?i44 ?a45 (L2.aG ?l45 ?c45 ?k45) ?pgP ?hdP ?poP ?saP ?mkP ?kcP ?nP_ins ?nP_blocks ?nP_outs ?pgT ?hdT ?poT ?saT ?mkT ?kcT ?nT_ins ?nT_tables ?nT_keeps ?nT_outs ?pgQ ?hdQ ?poQ ?saQ ?mkQ ?kcQ ?nQ_ins ?nQ_tables ?nQ_keeps ?nQ_outs ?nQ_kept ?pgY ?hdY ?poY ?saY ?mkY ?kcY ?nY_ins ?nY_blocks ?nY_outs ?nY_order ?nY_kept ?z_len ?z_range ?z_int ?z_str ?z_isinstance ?z_zip ?z_list ?z_tuple ?z_dict ?z_bool ?z_all ?z_enumerate ?z_sum ?z_sorted ?z_set ?z_min ?xsg ?xtk ?oclP ?omoP ?owP
  (case aBB=>k_is)
  (case hBB=>k_is)
  (case rBB=>k_is)
  (case aSSILENCE=>k_is)
  (case lSSILENCE=>k_is)
  (case aP=>k_is)
  (case aT=>k_is)
  (case aQ=>k_is)
  (case aY=>k_is)
  (case a0=>k_is)
  (case l0=>k_is)
  (case c0=>k_is)
  (case k0=>k_is)
  (case a1=>k_is)
  (case l1=>k_is)
  (case c1=>k_is)
  (case k1=>k_is)
  (case a2=>k_is)
  (case l2=>k_is)
  (case c2=>k_is)
  (case k2=>k_is)
  (case a3=>k_is)
  (case l3=>k_is)
  (case c3=>k_is)
  (case k3=>k_is)
  (case a4=>k_is)
  (case l4=>k_is)
  (case c4=>k_is)
  (case k4=>k_is)
  (case a5=>k_is)
  (case l5=>k_is)
  (case c5=>k_is)
  (case k5=>k_is)
  (case a6=>k_is)
  (case l6=>k_is)
  (case c6=>k_is)
  (case k6=>k_is)
  (case a7=>k_is)
  (case l7=>k_is)
  (case c7=>k_is)
  (case k7=>k_is)
  (case a8=>k_is)
  (case l8=>k_is)
  (case c8=>k_is)
  (case k8=>k_is)
  (case a9=>k_is)
  (case l9=>k_is)
  (case c9=>k_is)
  (case k9=>k_is)
  (case a10=>k_is)
  (case l10=>k_is)
  (case c10=>k_is)
  (case k10=>k_is)
  (case a11=>k_is)
  (case l11=>k_is)
  (case c11=>k_is)
  (case k11=>k_is)
  (case a12=>k_is)
  (case l12=>k_is)
  (case c12=>k_is)
  (case k12=>k_is)
  (case a13=>k_is)
  (case l13=>k_is)
  (case c13=>k_is)
  (case k13=>k_is)
  (case a14=>k_is)
  (case l14=>k_is)
  (case c14=>k_is)
  (case k14=>k_is)
  (case a15=>k_is)
  (case l15=>k_is)
  (case c15=>k_is)
  (case k15=>k_is)
  (case a16=>k_is)
  (case l16=>k_is)
  (case c16=>k_is)
  (case k16=>k_is)
  (case a17=>k_is)
  (case l17=>k_is)
  (case c17=>k_is)
  (case k17=>k_is)
  (case a18=>k_is)
  (case l18=>k_is)
  (case c18=>k_is)
  (case k18=>k_is)
  (case a19=>k_is)
  (case l19=>k_is)
  (case c19=>k_is)
  (case k19=>k_is)
  (case a20=>k_is)
  (case l20=>k_is)
  (case c20=>k_is)
  (case k20=>k_is)
  (case a21=>k_is)
  (case l21=>k_is)
  (case c21=>k_is)
  (case k21=>k_is)
  (case a22=>k_is)
  (case l22=>k_is)
  (case c22=>k_is)
  (case k22=>k_is)
  (case a23=>k_is)
  (case l23=>k_is)
  (case c23=>k_is)
  (case k23=>k_is)
  (case a24=>k_is)
  (case l24=>k_is)
  (case c24=>k_is)
  (case k24=>k_is)
  (case a25=>k_is)
  (case l25=>k_is)
  (case c25=>k_is)
  (case k25=>k_is)
  (case a26=>k_is)
  (case l26=>k_is)
  (case c26=>k_is)
  (case k26=>k_is)
  (case a27=>k_is)
  (case l27=>k_is)
  (case c27=>k_is)
  (case k27=>k_is)
  (case a28=>k_is)
  (case l28=>k_is)
  (case c28=>k_is)
  (case k28=>k_is)
  (case a29=>k_is)
  (case l29=>k_is)
  (case c29=>k_is)
  (case k29=>k_is)
  (case a30=>k_is)
  (case l30=>k_is)
  (case c30=>k_is)
  (case k30=>k_is)
  (case a31=>k_is)
  (case l31=>k_is)
  (case c31=>k_is)
  (case k31=>k_is)
  (case a32=>k_is)
  (case l32=>k_is)
  (case c32=>k_is)
  (case k32=>k_is)
  (case a33=>k_is)
  (case l33=>k_is)
  (case c33=>k_is)
  (case k33=>k_is)
  (case a34=>k_is)
  (case l34=>k_is)
  (case c34=>k_is)
  (case k34=>k_is)
  (case a35=>k_is)
  (case l35=>k_is)
  (case c35=>k_is)
  (case k35=>k_is)
  (case a36=>k_is)
  (case l36=>k_is)
  (case c36=>k_is)
  (case k36=>k_is)
  (case a37=>k_is)
  (case l37=>k_is)
  (case c37=>k_is)
  (case k37=>k_is)
  (case i37=>k_is)
  (case a38=>k_is)
  (case l38=>k_is)
  (case c38=>k_is)
  (case k38=>k_is)
  (case i38=>k_is)
  (case a39=>k_is)
  (case l39=>k_is)
  (case c39=>k_is)
  (case k39=>k_is)
  (case i39=>k_is)
  (case a40=>k_is)
  (case l40=>k_is)
  (case c40=>k_is)
  (case k40=>k_is)
  (case i40=>k_is)
  (case a41=>k_is)
  (case l41=>k_is)
  (case c41=>k_is)
  (case k41=>k_is)
  (case i41=>k_is)
  (case a42=>k_is)
  (case l42=>k_is)
  (case c42=>k_is)
  (case k42=>k_is)
  (case i42=>k_is)
  (case a43=>k_is)
  (case l43=>k_is)
  (case c43=>k_is)
  (case k43=>k_is)
  (case i43=>k_is)
  (case a44=>k_is)
  (case l44=>k_is)
  (case c44=>k_is)
  (case k44=>k_is)
  (case i44=>k_is)
  (case a45=>k_is)
  (case l45=>k_is)
  (case c45=>k_is)
  (case k45=>k_is)
  (case pgP=>k_is)
  (case hdP=>k_is)
  (case poP=>k_is)
  (case saP=>k_is)
  (case mkP=>k_is)
  (case kcP=>k_is)
  (case nP_ins=>k_is)
  (case nP_blocks=>k_is)
  (case nP_outs=>k_is)
  (case pgT=>k_is)
  (case hdT=>k_is)
  (case poT=>k_is)
  (case saT=>k_is)
  (case mkT=>k_is)
  (case kcT=>k_is)
  (case nT_ins=>k_is)
  (case nT_tables=>k_is)
  (case nT_keeps=>k_is)
  (case nT_outs=>k_is)
  (case pgQ=>k_is)
  (case hdQ=>k_is)
  (case poQ=>k_is)
  (case saQ=>k_is)
  (case mkQ=>k_is)
  (case kcQ=>k_is)
  (case nQ_ins=>k_is)
  (case nQ_tables=>k_is)
  (case nQ_keeps=>k_is)
  (case nQ_outs=>k_is)
  (case nQ_kept=>k_is)
  (case pgY=>k_is)
  (case hdY=>k_is)
  (case poY=>k_is)
  (case saY=>k_is)
  (case mkY=>k_is)
  (case kcY=>k_is)
  (case nY_ins=>k_is)
  (case nY_blocks=>k_is)
  (case nY_outs=>k_is)
  (case nY_order=>k_is)
  (case nY_kept=>k_is)
  (case z_len=>k_is)
  (case z_range=>k_is)
  (case z_int=>k_is)
  (case z_str=>k_is)
  (case z_isinstance=>k_is)
  (case z_zip=>k_is)
  (case z_list=>k_is)
  (case z_tuple=>k_is)
  (case z_dict=>k_is)
  (case z_bool=>k_is)
  (case z_all=>k_is)
  (case z_enumerate=>k_is)
  (case z_sum=>k_is)
  (case z_sorted=>k_is)
  (case z_set=>k_is)
  (case z_min=>k_is)
  (case xsg=>k_is)
  (case xtk=>k_is)
  (case oclP=>k_is)
  (case omoP=>k_is)
  (case owP=>kit_is)
 case S=>exact fun K H a ns hl hO hS=>⟨a,ns,rfl,L2.Scr.of hS hl hO,fun _=>rfl⟩
 case C=>exact fun _ _ _ _ z=>z
