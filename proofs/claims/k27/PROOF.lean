import PyProof.Rows.All
import Wide.All
import OpenK.AllK
import Wide.FinOn
import Lean
import PyProof.EqAt
import PyProof.EqKinds
import PyProof.TupleCall
import PyProof.AttrMiss
import PyProof.ConsumeWalk
import KE.KDictOf
import OpenK.KOwn
import PyProof.NsDelKeeps
import KE.KIsAll
import PyProof.Rows.SumAny
import PyProof.NeKinds
import PyProof.SeqI3
import KE.KRevIter
import KE.KSortTup
import PyProof.DictIter
import KE.KDictList
import PyProof.TupleOfGen
import PyProof.MinMaxWalk
import PyProof.WalkInts
import PyProof.DictWalks
import OpenK.KCls
import KE.KItemsList
import PyProof.StrCalls
import PyProof.FString5
import KE.KIntText
import KE.KListMore
import KE.KFind
import PyProof.ListMulRoad
import PyProof.FactsAll.tuple
import PySem.Challenge.RW_bitfloor_k27_no_paper_lies
import KE.RegKIsAll
set_option Elab.async false
set_option linter.all false
set_option maxRecDepth 100000
theorem yL:type_of% @PySem.wpAny_bind:=@PySem.wpAny_bind
theorem yM:type_of% @if_neg:=@if_neg
theorem yN:type_of% @if_pos:=@if_pos
theorem yO:type_of% @List.getElem?_eq_getElem:=@List.getElem?_eq_getElem
theorem yP:type_of% @Nat.le_refl:=@Nat.le_refl
theorem yQ:type_of% @PySem.wpAny_pure:=@PySem.wpAny_pure
theorem yR:type_of% @List.getElem?_eq_some_iff:=@List.getElem?_eq_some_iff
theorem yS:type_of% @List.length_map:=@List.length_map
theorem yT:type_of% @PySem.Heap.lt_size:=@PySem.Heap.lt_size
theorem yU:type_of% @Bool.and_eq_true:=@Bool.and_eq_true
theorem yV:type_of% @Ne.symm:=@Ne.symm
theorem yW:type_of% @PySem.Heap.get?_push_of_some:=@PySem.Heap.get?_push_of_some
theorem yX:type_of% @PySem.boot_len:=@PySem.boot_len
theorem yY:type_of% @List.getElem?_map:=@List.getElem?_map
theorem yZ:type_of% @List.mem_cons:=@List.mem_cons
theorem y8:type_of% @decide_eq_true:=@decide_eq_true
theorem y9:type_of% @Nat.ne_of_lt:=@Nat.ne_of_lt
theorem za:type_of% @congrArg:=@congrArg
theorem zb:type_of% @List.getElem?_append_left:=@List.getElem?_append_left
theorem zc:type_of% @List.mem_of_getElem?:=@List.mem_of_getElem?
theorem zd:type_of% @List.size_toArray:=@List.size_toArray
theorem ze:type_of% @List.not_mem_nil:=@List.not_mem_nil
theorem zf:type_of% @PySem.sizeLine_eq:=@PySem.sizeLine_eq
theorem zh:type_of% @or_false:=@or_false
theorem zi:type_of% @List.getD_eq_getElem?_getD:=@List.getD_eq_getElem?_getD
theorem zj:type_of% @Bool.false_ne_true:=@Bool.false_ne_true
theorem zk:type_of% @List.length_append:=@List.length_append
theorem zl:type_of% @PySem.wpAny_field:=@PySem.wpAny_field
theorem zm:type_of% @PySem.PassesOwn.never:=@PySem.PassesOwn.never
theorem zp:type_of% @Option.some.inj:=@Option.some.inj
theorem zq:type_of% @PySem.Heap.get?_push_size:=@PySem.Heap.get?_push_size
theorem zr:type_of% @Nat.lt_of_lt_of_le:=@Nat.lt_of_lt_of_le
theorem zt:type_of% @Option.map_eq_some_iff:=@Option.map_eq_some_iff
theorem zu:type_of% @List.take_length:=@List.take_length
theorem zv:type_of% @decide_eq_false:=@decide_eq_false
theorem zw:type_of% @List.getElem?_append_right:=@List.getElem?_append_right
theorem zx:type_of% @List.take_add_one:=@List.take_add_one
theorem zy:type_of% @Nat.le_trans:=@Nat.le_trans
theorem zA:type_of% @PySem.wpAny_mono:=@PySem.wpAny_mono
theorem zB:type_of% @Nat.ne_of_gt:=@Nat.ne_of_gt
theorem zC:type_of% @decide_eq_true_eq:=@decide_eq_true_eq
theorem zD:type_of% @Int.emod_nonneg:=@Int.emod_nonneg
theorem zE:type_of% @Int.emod_lt_of_pos:=@Int.emod_lt_of_pos
theorem zF:type_of% @Nat.le_of_lt:=@Nat.le_of_lt
theorem zG:type_of% @List.map_cons:=@List.map_cons
theorem zH:type_of% @List.length_take:=@List.length_take
theorem zI:type_of% @List.mem_singleton:=@List.mem_singleton
theorem zJ:type_of% @List.mem_append_right:=@List.mem_append_right
theorem zK:type_of% @List.length_cons:=@List.length_cons
theorem zL:type_of% @of_decide_eq_true:=@of_decide_eq_true
theorem zM:type_of% @PySem.F.plainAttrs_list:=@PySem.F.plainAttrs_list
theorem zN:type_of% @Nat.lt_irrefl:=@Nat.lt_irrefl
theorem zO:type_of% @Bool.or_eq_true:=@Bool.or_eq_true
theorem zP:type_of% @List.getElem?_zip_eq_some:=@List.getElem?_zip_eq_some
theorem zQ:type_of% @Int.eq_ofNat_of_zero_le:=@Int.eq_ofNat_of_zero_le
theorem zR:type_of% @List.mem_append:=@List.mem_append
theorem zT:type_of% @List.length_set:=@List.length_set
theorem zU:type_of% @PySem.wpAny_seqItems:=@PySem.wpAny_seqItems
theorem zV:type_of% @PySem.wpAny_setField_rec:=@PySem.wpAny_setField_rec
theorem zW:type_of% @PySem.F.slot_list_append:=@PySem.F.slot_list_append
theorem zX:type_of% @PySem.F.type_list_append:=@PySem.F.type_list_append
theorem zY:type_of% @PySem.wpAny_holding:=@PySem.wpAny_holding
theorem zZ:type_of% @Nat.zero_le:=@Nat.zero_le
theorem z8:type_of% @PySem.Heap.size_push:=@PySem.Heap.size_push
theorem z9:type_of% @PySem.W.kia_one:=@PySem.W.kia_one
theorem Aa:type_of% @List.mem_map:=@List.mem_map
theorem Ab:type_of% @List.lookup_cons:=@List.lookup_cons
theorem Ac:type_of% @PySem.W.kia_tup:=@PySem.W.kia_tup
theorem Ad:type_of% @List.getElem?_eq_none:=@List.getElem?_eq_none
theorem Ae:type_of% @List.countP_append:=@List.countP_append
theorem Af:type_of% @beq_eq_false_iff_ne:=@beq_eq_false_iff_ne
theorem Ag:type_of% @List.mem_range:=@List.mem_range
theorem Ah:type_of% @List.mem_cons_of_mem:=@List.mem_cons_of_mem
theorem Ai:type_of% @List.mem_append_left:=@List.mem_append_left
theorem Aj:type_of% @PySem.wpAny_pyIter_list:=@PySem.wpAny_pyIter_list
theorem Ak:type_of% @PySem.wpAny_callSpecial?_slot:=@PySem.wpAny_callSpecial?_slot
theorem Al:type_of% @PySem.wpAny_call_entry:=@PySem.wpAny_call_entry
theorem Am:type_of% @PySem.F.slot_zip_next:=@PySem.F.slot_zip_next
theorem An:type_of% @List.mem_cons_self:=@List.mem_cons_self
theorem Ao:type_of% @PySem.wpAny_pyIter_tuple:=@PySem.wpAny_pyIter_tuple
theorem Ap:type_of% @List.map_append:=@List.map_append
theorem Aq:type_of% @List.replicate_succ:=@List.replicate_succ
theorem Ar:type_of% @Nat.lt_trans:=@Nat.lt_trans
theorem As:type_of% @Nat.le_add_right:=@Nat.le_add_right
theorem Au:type_of% @PySem.wpAny_loadPart':=@PySem.wpAny_loadPart'
theorem Av:type_of% @List.getElem?_of_mem:=@List.getElem?_of_mem
theorem Aw:type_of% @PySem.wpAny_truthy_bool:=@PySem.wpAny_truthy_bool
theorem Ax:type_of% @PySem.wpAny_passesOwn:=@PySem.wpAny_passesOwn
theorem Ay:type_of% @PyProof.Rows.callWith_type1:=@PyProof.Rows.callWith_type1
theorem Az:type_of% @List.nodup_cons:=@List.nodup_cons
theorem AA:type_of% @List.getElem?_replicate:=@List.getElem?_replicate
theorem AB:type_of% @PySem.wpAny_newObj_type:=@PySem.wpAny_newObj_type
theorem AD:type_of% @List.length_singleton:=@List.length_singleton
theorem AE:type_of% @Nat.lt_of_le_of_lt:=@Nat.lt_of_le_of_lt
theorem AH:type_of% @PySem.wpAny_attempt:=@PySem.wpAny_attempt
theorem AI:type_of% @List.countP_cons:=@List.countP_cons
theorem AJ:type_of% @List.getElem?_set_ne:=@List.getElem?_set_ne
theorem AL:type_of% @Bool.false_and:=@Bool.false_and
theorem AM:type_of% @List.length_replicate:=@List.length_replicate
theorem AN:type_of% @PySem.Heap.get?_update_self:=@PySem.Heap.get?_update_self
theorem AO:type_of% @PySem.Heap.get?_update_other:=@PySem.Heap.get?_update_other
theorem AQ:type_of% @List.find?_cons:=@List.find?_cons
theorem AR:type_of% @List.length_nil:=@List.length_nil
theorem AS:type_of% @List.forIn_cons:=@List.forIn_cons
theorem AU:type_of% @List.all_eq_true:=@List.all_eq_true
theorem AW:type_of% @Nat.eq_zero_or_pos:=@Nat.eq_zero_or_pos
theorem AX:type_of% @List.countP_congr:=@List.countP_congr
theorem AY:type_of% @List.mem_filter:=@List.mem_filter
theorem AZ:type_of% @List.getElem?_set_self:=@List.getElem?_set_self
theorem A0:type_of% @Bool.eq_iff_iff:=@Bool.eq_iff_iff
theorem A1:type_of% @Nat.lt_succ_self:=@Nat.lt_succ_self
theorem A2:type_of% @PySem.mem_of_lookup:=@PySem.mem_of_lookup
theorem A3:type_of% @Int.toNat_natCast:=@Int.toNat_natCast
theorem A4:type_of% @List.flatten_cons:=@List.flatten_cons
theorem A5:type_of% @List.ext_getElem?:=@List.ext_getElem?
theorem A6:type_of% @List.getElem_mem:=@List.getElem_mem
theorem A7:type_of% @List.countP_map:=@List.countP_map
theorem A8:type_of% @List.getElem?_set:=@List.getElem?_set
theorem A9:type_of% @List.take_append_of_le_length:=@List.take_append_of_le_length
theorem Ba:type_of% @PySem.F.slot_tuple_iterator_next:=@PySem.F.slot_tuple_iterator_next
namespace L2
open PySem PySem.Spec PyProof.Rows
variable{xs vs:List V}{us:List Value}{H:Hp}{P:Program}{w:World}{h base:Heap}{g':Array GenState}{t' i j k n:Nat}{d':Drawn}{ch fp:List Addr}{it dx C:Addr}{N ps:List Str}{M:Model}{A:Around}{s' s:Shared}{X:Cx}{pos p:Pos}{pins:List (Addr × Obj)}{Q:Value->Shared->Prop}{op:CmpOp}{y:V}{K:PySem.W.Frag}{D:Ends}{es:List Expr}{tg l:Expr}{te tl:TE}{g:TG}{body:List Stmt}{lo:Int}{pl:Sem Bool}{mA mg:Str->Option Value}{kw:List (Str × Value)}{CX:CXT}{fd:FuncData}{sp:Sp}{outer:List Env}{kindOf:Str->Option NameKind}{qual:Str}{scope:Scope}
abbrev Key:=Sum Int Str
def keyIs:Key->Value->Bool
 | .inl k,v=>Value.isInt k v
 | .inr x,v=>Value.isStrOf x v
def keyH (w:World):Key->Int
 | .inl k=>hashInt k
 | .inr x=>hashStr w x
theorem dg:∀ {k:Key}{v:Value},keyIs k v=true->(∃ i t,k=Sum.inl i/\v=Value.int i t)\/(∃ x t,k=Sum.inr x/\v=Value.str x t)
 | .inl i,v,h=>by
  obtain ⟨t,e⟩:=Value.isInt_shape (k:=i) (v:=v) h;exact .inl ⟨i,t,rfl,e⟩
 | .inr x,v,h=>by
  obtain ⟨t,e⟩:=Value.isStrOf_shape (x:=x) (v:=v) h;exact .inr ⟨x,t,rfl,e⟩
theorem ox (i:Int) (t:Tok):keyIs (.inl i) (.int i t)=true:=by simp [keyIs,Value.isInt]
theorem hV (x:Str) (t:Tok):keyIs (.inr x) (.str x t)=true:=by simp [keyIs,Value.isStrOf]
theorem oy (a b:Int):decide ((Sum.inl a:Key)=Sum.inl b)=(a == b):=by
 by_cases e:a=b
 ·subst e; simp
 ·have h:¬ (Sum.inl a:Key)=Sum.inl b:=fun q=>e (Sum.inl.inj q)
  rw [zv h];exact (Af.mpr e).symm
theorem oz (a b:Str):decide ((Sum.inr a:Key)=Sum.inr b)=decide (a=b):=by
 by_cases e:a=b
 ·subst e; simp
 ·have h:¬ (Sum.inr a:Key)=Sum.inr b:=fun q=>e (Sum.inr.inj q)
  rw [zv h,zv e]
theorem oA (a:Int) (b:Str):decide ((Sum.inl a:Key)=Sum.inr b)=false:=zv (fun q=>nomatch q)
theorem oB (a:Str) (b:Int):decide ((Sum.inr a:Key)=Sum.inl b)=false:=zv (fun q=>nomatch q)
def mixKind (prog:Program) (w:World):PySem.KeyKind prog w Key where
 is:=keyIs
 hash:=keyH w
 inj:=fun v a b ha hb=>by
  rcases dg ha with ⟨i,t,rfl,rfl⟩ | ⟨x,t,rfl,rfl⟩
  ·rcases dg hb with ⟨j,u,rfl,e⟩ | ⟨y,u,rfl,e⟩
   ·injection e with e1 _; rw [e1]
   ·exact nomatch e
  ·rcases dg hb with ⟨j,u,rfl,e⟩ | ⟨y,u,rfl,e⟩
   ·exact nomatch e
   ·injection e with e1 _; rw [e1]
 byValue:=fun k v h=>by
  rcases dg h with ⟨i,t,rfl,rfl⟩ | ⟨x,t,rfl,rfl⟩ <;> rfl
 pyHash:=fun hv h=>by
  rcases dg hv with ⟨i,t,rfl,rfl⟩ | ⟨x,t,rfl,rfl⟩
  ·exact wpAny_pyHash_int h
  ·exact wpAny_pyHash_str h
 eqBool:=fun hu hv h=>by
  rcases dg hu with ⟨i,t,rfl,rfl⟩ | ⟨x,t,rfl,rfl⟩
  ·rcases dg hv with ⟨j,u,rfl,rfl⟩ | ⟨y,u,rfl,rfl⟩
   ·rw [oy] at h; exact wpAny_eqBool_int h
   ·rw [oA] at h; exact SeqAt.EqAt.int_str i t y u _ _ _ _ h
  ·rcases dg hv with ⟨j,u,rfl,rfl⟩ | ⟨y,u,rfl,rfl⟩
   ·rw [oB] at h; exact SeqAt.EqAt.str_int x t j u _ _ _ _ h
   ·rw [oz] at h; exact wpAny_eqBool_str h
 «strs»:=fun k x t v h=>by
  rcases dg h with ⟨i,u,rfl,e⟩ | ⟨y,u,rfl,e⟩
  ·exact nomatch e
  ·injection e with e1 _
   subst e1;cases v <;> rfl
theorem oC (prog:Program) (w:World) (i:Int) (t:Tok):(mixKind prog w).is (.inl i) (.int i t)=true:=ox i t
theorem oE (prog:Program) (w:World) (x:Str) (t:Tok):(mixKind prog w).is (.inr x) (.str x t)=true:=hV x t
inductive V where
 | non | bl (b:Bool) | int (i:Int) | str (x:Str) | byt (b:Array UInt8) | flt (b:UInt64) | ref (a:Addr) | ty (n:String)
 deriving DecidableEq
def RelV:V->Value->Prop
 | .non,u=>u=Value.none
 | .bl b,u=>u=Value.bool b
 | .int i,u=>∃ t,u=Value.int i t
 | .str x,u=>∃ t,u=Value.str x t
 | .byt b,u=>∃ t,u=Value.bytes b t
 | .flt b,u=>∃ t,u=Value.float b t
 | .ref a,u=>u=Value.ref a
 | .ty n,u=>u=Value.type n
abbrev Vals:List V->List Value->Prop:=Paired RelV
theorem Vals.length (r:Vals xs us):xs.length=us.length:=Paired.length r
theorem Vals.get:∀ {xs:List V}{us:List Value}{i:Nat}{x:V},Vals xs us->xs[i]?=some x->∃ u,us[i]?=some u/\RelV x u
 | _,_,_,_,.nil,e=>by simp at e
 | _,_,0,_,.cons r _,e=>by simp at e; subst e; exact ⟨_,rfl,r⟩
 | _,_,i + 1,x,.cons _ t,e=>by
  obtain ⟨u,h1,h2⟩:=Vals.get (i:=i) (x:=x) t (by simpa using e)
  exact ⟨u,by simpa using h1,h2⟩
theorem Vals.set {x:V}{u:Value} (r:RelV x u):∀ {xs:List V}{us:List Value} (i:Nat),Vals xs us->Vals (xs.set i x) (us.set i u)
 | _,_,_,.nil=>.nil
 | _,_,0,.cons _ t=>.cons r t
 | _,_,i + 1,.cons q t=>.cons q (Vals.set r i t)
theorem Vals.append:∀ {xs ys:List V}{us ws:List Value},Vals xs us->Vals ys ws->Vals (xs++ys) (us++ws)
 | _,_,_,_,.nil,s=>s
 | _,_,_,_,.cons r t,s=>.cons r (Vals.append t s)
theorem Vals.take:∀ {xs:List V}{us:List Value} (n:Nat),Vals xs us->Vals (xs.take n) (us.take n)
 | _,_,0,_=>.nil
 | _,_,_ + 1,.nil=>.nil
 | _,_,n + 1,.cons r t=>.cons r (Vals.take n t)
theorem Vals.drop:∀ {xs:List V}{us:List Value} (n:Nat),Vals xs us->Vals (xs.drop n) (us.drop n)
 | _,_,0,r=>r
 | _,_,_ + 1,.nil=>.nil
 | _,_,n + 1,.cons _ t=>Vals.drop n t
def RelO:Option V->Option Value->Prop
 | some v,some u=>RelV v u
 | none,none=>True
 | _,_=>False
def KV {κ:Type}:List (κ × V)->List (κ × Value)->Prop:=Paired fun (p:κ × V) (q:κ × Value)=>p.1=q.1/\RelV p.2 q.2
def kV:Key->V
 | .inl i=>.int i
 | .inr x=>.str x
inductive HO where
 | lst (xs:List V)
 | tup (xs:List V)
 | dK (kvs:List (Key × V)) | dT (kvs:List (List Key × V))
 | set (S:Int->Bool) (n:Nat)
 | ins (C dx:Addr) (fs:List (Str × V))
 | own (x:Addr)
 | xd (fs:List (Str × V))
 | met (f x:Addr)
 | rng (lo hi:Int)
 | frz (o:Obj) (u:HO)
 | tbl (ps:Array Value)
 | ext (φ:Heap->Prop)
abbrev Hp:=Addr->Option HO
def upd (H:Hp) (a:Addr) (o:HO):Hp:=fun b=>if b=a then some o else H b
theorem ah {H:Hp}{a:Addr}{o:HO}:upd H a o a=some o:=by unfold upd; rw [yN rfl]
theorem aR{a b:Addr}{o:HO} (h:b≠a):upd H a o b=H b:=by unfold upd; rw [yM h]
theorem aV {H:Hp}{a b:Addr}{o u:HO} (h:H a=some o) (h':H b=some u) (d:o≠u):a≠b:=by
 intro e; subst e; rw [h] at h'; exact d (zp h')
theorem aY {H:Hp}{a b:Addr}{o:HO} (h:H a=some o) (h':H b=none):a≠b:=by
 intro e; subst e; rw [h] at h'; cases h'
section
variable (P:Program) (w:World)
def ObjOk (H:Hp) (h:Heap) (a:Addr):HO->Prop
 | .lst xs=>xs.length<=sizeLine/\∃ (its:List Value) (n:Nat),Vals xs its/\h.get? a=some { cls:=.type "list",data:=.seq its.toArray n }
 | .tup xs=>xs.length<=sizeLine/\∃ its:List Value,Vals xs its/\IsTup h a its.toArray
 | .dK kvs=>kvs.length<=sizeLine/\(a == sysModules)=false/\∃ vs,KV kvs vs/\h.DictOf (mixKind P w) a vs
 | .dT kvs=>kvs.length<=sizeLine/\(a == sysModules)=false/\∃ xs:List (List Key × Addr × Value),
   Paired (fun (p:List Key × V) (q:List Key × Addr × Value)=>p.1=q.1/\H q.2.1=some (.tup (p.1.map kV))/\RelV p.2 q.2.2) kvs xs /\
   ∃ o es ep,h.get? a=some o/\o.ExactDict/\o.data=.dict es ep/\es.toList=xs.map (entryOfKey (tupleKind (mixKind P w)))/\(xs.map (·.1)).Nodup
 | .set S n=>h.SetOf (intKind P w) a S n
 | .ins C dx fs=>H dx=some (.own a)/\fs.length<=1000/\dx≠a/\h.get? a=some (PySem.W.instObj C dx) /\
   ∃ mA,h.Ns1 dx mA/\(∀ f,RelO (fs.lookup f) (mA f))/\PySem.Within mA (fs.map (·.1))
 | .own _=>∃ o,h.get? a=some o
 | .xd fs=>∃ mA,h.Ns1 a mA/\∀ f,RelO (fs.lookup f) (mA f)
 | .rng lo hi=>∃ t u v,h.get? a=some { cls:=.type "range",data:=.fields #[.int lo t,.int hi u,.int 1 v] }
 | .frz o u=>h.get? a=some o/\ObjOk H h a u
 | .tbl ps=>h.get? a=some { cls:=.none,data:=.fields ps }
 | .met f x=>h.get? a=some (PySem.W.methodObj (.ref f) (.ref x))
 | .ext φ=>φ h/\(∃ o,h.get? a=some o)/\∀ h1 h2:Heap,φ h1->(∀ o,h1.get? a=some o->h2.get? a=some o)->φ h2
def HOk (H:Hp) (h:Heap):Prop:=∀ a o,H a=some o->ObjOk P w H h a o
end
section
variable {P:Program}{w:World}{H H':Hp}{h h':Heap}{a:Addr}{o:HO}
theorem ObjOk.lt (x:ObjOk P w H h a o):a < h.objs.size:=by
 cases o with
 | lst xs=>obtain ⟨_,_,_,_,e⟩:=x; exact yT e
 | tup xs=>obtain ⟨_,_,_,p⟩:=x; exact p.lt
 | dK kvs=>obtain ⟨_,_,_,_,o,_,_,e,_⟩:=x; exact yT e
 | dT kvs=>obtain ⟨_,_,_,_,o,_,_,e,_⟩:=x; exact yT e
 | set S n=>obtain ⟨o,_,_,_,e,_⟩:=x; exact yT e
 | ins C dx fs=>obtain ⟨_,_,_,e,_⟩:=x; exact yT e
 | own y=>obtain ⟨_,e⟩:=x; exact yT e
 | xd fs=>obtain ⟨_,⟨_,_,_,e,_⟩,_⟩:=x; exact yT e
 | rng lo hi=>obtain ⟨_,_,_,e⟩:=x; exact yT e
 | frz ob u=>obtain ⟨e,_⟩:=x; exact yT e
 | tbl ps=>exact yT (show h.get? a=some _ from x)
 | met f y=>exact yT (show h.get? a=some _ from x)
 | ext φ=>obtain ⟨_,⟨_,e⟩,_⟩:=x; exact yT e
theorem Paired.mapP {α β:Type}{F G:α->β->Prop}:∀ {l₁:List α}{l₂:List β},Paired F l₁ l₂->(∀ a b,F a b->G a b)->Paired G l₁ l₂
 | _,_,.nil,_=>.nil
 | _,_,.cons r t,f=>.cons (f _ _ r) (Paired.mapP t f)
theorem ObjOk.stay (x:ObjOk P w H h a o) (k:∀ b u,(b=a\/H b=some (.own a))->h.get? b=some u->h'.get? b=some u)
  (ho:∀ b,H b=some (.own a)->H' b=some (.own a)) (ht:∀ b xs,H b=some (.tup xs)->H' b=some (.tup xs)):ObjOk P w H' h' a o:=by
 induction o with
 | lst xs=>obtain ⟨z,its,n,r,e⟩:=x; exact ⟨z,its,n,r,k _ _ (.inl rfl) e⟩
 | tup xs=>obtain ⟨z,its,r,ob,e,c⟩:=x; exact ⟨z,its,r,ob,k _ _ (.inl rfl) e,c⟩
 | dK kvs=>obtain ⟨z,y,vs,r,ob,es,ep,e,c⟩:=x; exact ⟨z,y,vs,r,ob,es,ep,k _ _ (.inl rfl) e,c⟩
 | dT kvs =>
  obtain ⟨z,y,xs,r,ob,es,ep,e,c⟩:=x;exact ⟨z,y,xs,Paired.mapP r fun p q z=>⟨z.1,ht _ _ z.2.1,z.2.2⟩,ob,es,ep,k _ _ (.inl rfl) e,c⟩
 | set S n=>obtain ⟨ob,es,ep,t,e,c⟩:=x; exact ⟨ob,es,ep,t,k _ _ (.inl rfl) e,c⟩
 | ins C dx fs =>
  obtain ⟨d,z,ne,e,mA,⟨od,es,ep,e2,c⟩,r⟩:=x;exact ⟨ho _ d,z,ne,k _ _ (.inl rfl) e,mA,⟨od,es,ep,k _ _ (.inr d) e2,c⟩,r⟩
 | own y=>obtain ⟨ob,e⟩:=x; exact ⟨ob,k _ _ (.inl rfl) e⟩
 | xd fs=>obtain ⟨mA,⟨od,es,ep,e,c⟩,r⟩:=x; exact ⟨mA,⟨od,es,ep,k _ _ (.inl rfl) e,c⟩,r⟩
 | rng lo hi=>obtain ⟨t,u,v,e⟩:=x; exact ⟨t,u,v,k _ _ (.inl rfl) e⟩
 | frz ob u ih=>obtain ⟨e,q⟩:=x; exact ⟨k _ _ (.inl rfl) e,ih q⟩
 | tbl ps =>
  have e:h.get? a=some { cls:=.none,data:=.fields ps }:=x;show h'.get? a=some { cls:=.none,data:=.fields ps };exact k a _ (.inl rfl) e
 | met f y =>
  have e:h.get? a=some (PySem.W.methodObj (.ref f) (.ref y)):=x;show h'.get? a=some (PySem.W.methodObj (.ref f) (.ref y));exact k a _ (.inl rfl) e
 | ext φ=>obtain ⟨p,⟨o,e⟩,st⟩:=x; exact ⟨st _ _ p fun o q=>k _ _ (.inl rfl) q,⟨o,k _ _ (.inl rfl) e⟩,st⟩
theorem HOk.lt (x:HOk P w H h) (e:H a=some o):a < h.objs.size:=(x a o e).lt
theorem HOk.fresh (x:HOk P w H h) (e:h.objs.size<=a):H a=none:=by
 cases q:H a with
 | none=>rfl
 | some u=>exact absurd (zr (x.lt q) e) (zN _)
theorem HOk.kept (x:HOk P w H h) (k:∀ b u,h.get? b=some u->h'.get? b=some u):HOk P w H h':=fun a o e =>
 (x a o e).stay (fun b u _ q=>k b u q) (fun _ q=>q) fun _ _ q=>q
theorem HOk.laid (x:HOk P w H h) (k:∀ b u,h.get? b=some u->h'.get? b=some u) (hp:h.objs.size<=a) (new:ObjOk P w (upd H a o) h' a o):HOk P w (upd H a o) h':=fun b u e=>by
 have hn:=x.fresh hp
 by_cases hb:b=a
 ·subst hb; rw [ah] at e; cases e; exact new
 ·rw [aR hb] at e
  exact (x b u e).stay (fun c v _ q=>k c v q) (fun c q=>by rw [aR (aY q hn)]; exact q) fun c xs q=>by rw [aR (aY q hn)]; exact q
end
def Rd (H:Hp) (a:Addr) (u:HO):Prop:=H a=some u\/∃ o,H a=some (.frz o u)
theorem Rd.ok{a:Addr}{u:HO} (r:Rd H a u) (x:HOk P w H h):ObjOk P w H h a u:=by
 rcases r with r | ⟨o,r⟩
 ·exact x a u r
 ·obtain ⟨_,q⟩:=x a _ r
  exact q
def Mut:Option HO->Prop
 | some (.lst _)=>True
 | some (.dK _)=>True
 | some (.dT _)=>True
 | some (.set _ _)=>True
 | some (.ins _ _ _)=>True
 | some (.ext _)=>True
 | _=>False
section
variable {P:Program}{w:World}{H:Hp}{h h':Heap}{x e:Addr}{o':HO}
theorem HOk.write (ok:HOk P w H h) (mu:Mut (H x)) (he:e=x\/H e=some (.own x)) (k:∀ b u,b≠e->h.get? b=some u->h'.get? b=some u) (heo:∃ u,h'.get? e=some u)
  (new:ObjOk P w (upd H x o') h' x o'):HOk P w (upd H x o') h':=fun b u q=>by
 have nown:∀ c y,H c=some (.own y)->c≠x:=fun c y r z=>by subst z; rw [r] at mu; exact mu
 have ntup:∀ c xs,H c=some (.tup xs)->c≠x:=fun c xs r z=>by subst z; rw [r] at mu; exact mu
 by_cases hb:b=x
 ·subst hb; rw [ah] at q; cases q; exact new
 ·rw [aR hb] at q
  by_cases hbe:b=e
  ·have q':H b=some (.own x):=by
    rcases he with z | z
    ·exact absurd (hbe.trans z) hb
    ·rw [hbe]; exact z
   rw [q] at q'; cases q';obtain ⟨v,hv⟩:=heo;exact ⟨v,by rw [hbe]; exact hv⟩
  ·refine (ok b u q).stay (fun c v hc r=>k c v ?_ r) (fun c r=>by rw [aR (nown c b r)]; exact r) fun c xs r=>by rw [aR (ntup c xs r)]; exact r
   rcases hc with rfl | hc
   ·exact hbe
   ·rintro rfl
    rcases he with z | z
    ·exact nown c b hc z
    ·rw [hc] at z; cases z; exact hb rfl
end
structure Un (fs ex:List Addr) (H H':Hp) (h h':Heap):Prop where
 keep:∀ b o,h.get? b=some o->H b=none->b ∉ fs->b ∉ ex->h'.get? b=some o
 slot:∀ b o,h.get? b=some o->H b=none->b∈fs->b ∉ ex->∃ sl,h'.get? b=some { o with slots:=sl }
 free:∀ b o,h.get? b=some o->H b=none->b ∉ ex->H' b=none
 there:∀ b o,h.get? b=some o->b ∉ ex->∃ o',h'.get? b=some o'
 tups:∀ b xs,H b=some (.tup xs)->H' b=some (.tup xs)
 frzs:∀ b o u,H b=some (.frz o u)->H' b=some (.frz o u)
 tbls:∀ b ps,H b=some (.tbl ps)->∃ more,H' b=some (.tbl (ps++more))
section
variable {fs fs' ex ex':List Addr}{H H1 H2:Hp}{h h1 h2 h':Heap}{a x e:Addr}{o:HO}
theorem Un.any (u:Un fs ex H H1 h h1) {b:Addr}{ob:Obj} (q:h.get? b=some ob) (n:H b=none) (hx:b ∉ ex):∃ sl,h1.get? b=some { ob with slots:=sl }:=by
 by_cases hb:b∈fs
 ·exact u.slot b ob q n hb hx
 ·exact ⟨ob.slots,u.keep b ob q n hb hx⟩
theorem Un.kept (k:∀ b u,h.get? b=some u->h'.get? b=some u):Un fs ex H H h h' :=
 ⟨fun b ob q _ _ _=>k b ob q,fun b ob q _ _ _=>⟨ob.slots,k b ob q⟩,fun _ _ _ n _=>n,fun b ob q _=>⟨ob,k b ob q⟩,fun _ _ q=>q,fun _ _ _ q=>q,fun _ ps q=>⟨#[],by rw [q]; simp⟩⟩
theorem Un.refl:Un fs ex H H h h:=Un.kept fun _ _ q=>q
theorem Un.laid (k:∀ b u,h.get? b=some u->h'.get? b=some u) (hp:h.objs.size<=a) (hn:H a=none):Un fs ex H (upd H a o) h h' where
 keep:=fun b u q _ _ _=>k b u q
 slot:=fun b u q _ _ _=>⟨u.slots,k b u q⟩
 free:=fun b u q n _=>by rw [aR (y9 (zr (yT q) hp))]; exact n
 there:=fun b u q _=>⟨u,k b u q⟩
 tups:=fun b xs q=>by rw [aR (aY q hn)]; exact q
 frzs:=fun b u xs q=>by rw [aR (aY q hn)]; exact q
 tbls:=fun b ps q=>⟨#[],by rw [aR (aY q hn),q]; simp⟩
theorem Un.write (mu:Mut (H x)) (he:e=x\/H e=some (.own x)) (k:∀ b u,b≠e->h.get? b=some u->h'.get? b=some u) (heo:∃ u,h'.get? e=some u):Un fs ex H (upd H x o) h h':=by
 have hx:∀ b,H b=none->b≠x:=fun b n z=>by subst z; rw [n] at mu; exact mu
 have hb:∀ b,H b=none->b≠e:=fun b n z=>by
  subst z;rcases he with r | r
  ·exact hx b n r
  ·rw [n] at r; cases r
 have hm:∀ b u,H b=some u->¬ Mut (some u)->b≠x:=fun b u q nm z=>by subst z; rw [q] at mu; exact nm mu
 refine ⟨fun b u q n _ _=>k b u (hb b n) q,fun b u q n _ _=>⟨u.slots,k b u (hb b n) q⟩,fun b u q n _=>by rw [aR (hx b n)]; exact n,fun b u q _=>?_,
  fun b xs q=>by rw [aR (hm b _ q fun z=>z)]; exact q,fun b u xs q=>by rw [aR (hm b _ q fun z=>z)]; exact q,fun b ps q=>⟨#[],by rw [aR (hm b _ q fun z=>z),q]; simp⟩⟩
 by_cases hbe:b=e
 ·subst hbe; exact heo
 ·exact ⟨u,k b u hbe q⟩
end
def trk (h:Heap) (H:Hp):List Addr:=(List.range h.objs.size).filter fun a=>(H a).isSome
def hidT (h:Heap) (H:Hp):Heap:=PySem.W.hideAll h (trk h H)
theorem oF (h:Heap) (H:Hp):(hidT h H).objs.size=h.objs.size:=PySem.W.hideAll_size _ _
theorem oG{b:Addr}{o:Obj} (e:h.get? b=some o) (n:H b=none):(hidT h H).get? b=some o :=
 PySem.W.hideAll_get _ e fun hm=>by
  have q:(H b).isSome=true:=(AY.mp hm).2;rw [n] at q; simp at q
theorem oH{b:Addr}{o:Obj} (e:(hidT h H).get? b=some o):h.get? b=some o/\H b=none:=by
 have e':h.get? b=some o:=PySem.W.of_hideAll (trk h H) e;refine ⟨e',?_⟩;cases q:H b with
 | none=>rfl
 | some x =>
  have hm:b∈trk h H:=AY.mpr ⟨Ag.mpr (yT e'),by simp [q]⟩
  have z:(hidT h H).get? b=none:=PySem.W.hideAll_none (trk h H) hm;rw [z] at e; cases e
structure Mod (K:PySem.W.Frag) (mg:Str->Option Value) (base:Heap):Prop where
 kin:K.In base
 glob:base.Ns mainGlobals mg
 blt:∃ mb,base.Ns builtinsNs mb/\∀ x:Str,x ≠ "__name__" -> mb x=bootBuiltins x
 nolimit:base.NoLimit
structure Cx where
 prog:Program
 w:World
 K:PySem.W.Frag
 mg:Str->Option Value
 base:Heap
 A:Around
 N:List Str
 s₀:Shared
 H₀:Hp
 env:Env
 outer:List Env
 stack:List Env
 ex:List Addr
 fn:Str->Bool
 calm:Bool
 pn:List (Addr × Obj)
 xe:Value->Shared->Prop
def frs (l:List Env):List Addr:=l.filterMap (·.frame)
abbrev Cx.fs (X:Cx):List Addr:=frs X.outer
def Vis (sc:Scope) (x:Str):Prop:=sc.names.lookup x=some .local\/sc.names.lookup x=some .cell\/sc.names.lookup x=some .free
def Loc (sc:Scope) (x:Str):Prop:=sc.names.lookup x=some .local\/sc.names.lookup x=some .cell
def Look (env:Env) (h:Heap) (m:Str->Option Value) (x:Str) (u:Value):Prop :=
 (env.kindOf x=some .local/\m x=some u)\/((env.kindOf x=some .cell\/env.kindOf x=some .free)/\∃ c,env.cells.lookup x=some c/\h.IsCell c (some u))
structure Cx.Ok (X:Cx):Prop where
 mod:Mod X.K X.mg X.base
 kind:X.env.scope.kind=.function
 glob:X.env.globals=mainGlobals
 blt:X.env.builtins=builtinsNs
 above:X.s₀.heap.objs.size<=X.env.locals
 inj:∀ x y c,X.env.cells.lookup x=some c->X.env.cells.lookup y=some c->x=y
 has:∀ x,(X.env.kindOf x=some .cell\/X.env.kindOf x=some .free)->∃ c,X.env.cells.lookup x=some c
 cab:∀ x c,X.fn x=true->X.env.cells.lookup x=some c->X.s₀.heap.objs.size<=c
 hd:X.calm=true->X.A.handled=none
 frames:X.A.frames=some X.stack
 stk:X.stack=X.outer\/(X.stack=X.env :: X.outer/\X.env.frame=some X.env.locals)
 exf:∀ b∈X.ex,b≠X.env.locals/\∀ x c,X.env.cells.lookup x=some c->c≠b
 bs:∀ b o,X.base.get? b=some o->X.s₀.heap.get? b=some o/\X.H₀ b=none
 bsz:X.base.objs.size<=X.s₀.heap.objs.size
 noex:∀ b o,X.base.get? b=some o->b ∉ X.ex
 exfs:∀ b∈X.ex,b ∉ X.fs
 funs:X.s₀.heap.FunFrames X.base X.outer
 frf:∀ b∈X.fs,X.H₀ b=none
structure Inv (X:Cx) (pins:List (Addr × Obj)) (σ:List (Option V)) (H:Hp) (s:Shared):Prop where
 ok:X.Ok
 os:s.os=X.s₀.os
 bare:AllBare s.gens
 base:Un X.fs X.ex X.H₀ H X.s₀.heap s.heap
 loc:∃ m,s.heap.Ns X.env.locals m/\∀ (i:Nat) (x:Str) (v:V),X.N[i]?=some x->σ[i]?=some (some v)->Vis X.env.scope x->∃ u,RelV v u/\Look X.env s.heap m x u
 cell:∀ x c,X.env.cells.lookup x=some c->∃ v,s.heap.IsCell c v
 free:H X.env.locals=none
 freeC:∀ x c,X.env.cells.lookup x=some c->H c=none
 pin:∀ p∈X.pn++pins,s.heap.get? p.1=some p.2/\H p.1=none/\p.1≠X.env.locals/\p.1 ∉ X.fs/\∀ v,p.2.data≠.cell v
 hok:HOk X.prog X.w H s.heap
 len:σ.length=X.N.length
section
variable {X:Cx}{pins:List (Addr × Obj)}{σ:List (Option V)}{H H':Hp}{s:Shared}{h':Heap}
theorem Cx.Ok.nofr (ok:X.Ok) {b:Addr}{o:Obj} (e:X.base.get? b=some o):b ∉ X.fs:=fun hb=>by
 have:=(ok.funs.mem hb).1;rw [e] at this; cases this
theorem Inv.bs (I:Inv X pins σ H s):∀ b o,X.base.get? b=some o->s.heap.get? b=some o/\H b=none:=fun b o e =>
 ⟨I.base.keep b o (I.ok.bs b o e).1 (I.ok.bs b o e).2 (I.ok.nofr e) (I.ok.noex b o e),I.base.free b o (I.ok.bs b o e).1 (I.ok.bs b o e).2 (I.ok.noex b o e)⟩
theorem Inv.bk (I:Inv X pins σ H s):∀ b o,X.base.get? b=some o->s.heap.get? b=some o:=fun b o e=>(I.bs b o e).1
theorem Inv.mod (I:Inv X pins σ H s):Mod X.K X.mg X.base:=I.ok.mod
theorem Inv.kIn (I:Inv X pins σ H s):X.K.In s.heap:=I.ok.mod.kin.keeps I.bk
theorem Inv.lt (I:Inv X pins σ H s):X.env.locals < s.heap.objs.size:=let ⟨_,hn,_⟩:=I.loc; hn.lt
theorem Inv.sz (I:Inv X pins σ H s):X.s₀.heap.objs.size<=s.heap.objs.size:=zy I.ok.above (zF I.lt)
theorem Inv.nofs (I:Inv X pins σ H s) {a:Addr} (h:s.heap.objs.size<=a):a ∉ X.fs:=fun hb=>by
 obtain ⟨_,o,ho,_⟩:=I.ok.funs.mem hb;exact absurd (zr (yT ho) (zy I.sz h)) (zN _)
theorem Inv.cne (I:Inv X pins σ H s):∀ x c,X.env.cells.lookup x=some c->c≠X.env.locals:=fun x c e z=>by
 obtain ⟨v,o,ho,hd⟩:=I.cell x c e;obtain ⟨m,⟨o',es,ep,ho',hd',_⟩,_⟩:=I.loc;rw [z,ho'] at ho; cases ho; rw [hd'] at hd; cases hd
theorem Inv.funs (I:Inv X pins σ H s):s.heap.FunFrames X.base X.outer:=by
 have all:∀ (l:List Env),(∀ b∈frs l,b∈X.fs)->X.s₀.heap.FunFrames X.base l->s.heap.FunFrames X.base l:=by
  intro l
  induction l with
  | nil=>intro _ _; trivial
  | cons env r ih =>
   intro hs hl;obtain ⟨hk,⟨L,o,hf,hn,ho,hd⟩,hr⟩:=hl;have hL:L∈X.fs:=hs L (by unfold frs; rw [List.filterMap_cons,hf]; exact An)
   obtain ⟨sl,e⟩:=I.base.slot L o ho (I.ok.frf L hL) hL fun z=>I.ok.exfs L z hL
   exact ⟨hk,⟨L,_,hf,hn,e,hd⟩,ih (fun b hb=>hs b (by unfold frs; rw [List.filterMap_cons,hf]; exact Ah _ hb)) hr⟩
 exact all X.outer (fun _ hb=>hb) I.ok.funs
theorem Inv.stack (I:Inv X pins σ H s):s.heap.FunFrames X.base X.stack:=by
 rcases I.ok.stk with e | ⟨e,hf⟩
 ·rw [e]; exact I.funs
 ·rw [e]
  obtain ⟨m,hn,_⟩:=I.loc;refine .cons (by rw [I.ok.kind]; decide) hf hn ?_ I.funs
  exact Heap.get?_none_of_le (zy I.ok.bsz I.ok.above)
theorem Inv.stkSub (I:Inv X pins σ H s):∀ b∈frs X.stack,b∈X.env.locals :: X.fs:=fun b hb=>by
 rcases I.ok.stk with e | ⟨e,hf⟩
 ·rw [e] at hb; exact Ah _ hb
 ·rw [e] at hb
  unfold frs at hb;rw [List.filterMap_cons,hf] at hb;exact hb
theorem Inv.stkFree (I:Inv X pins σ H s):∀ b∈frs X.stack,H b=none:=fun b hb=>by
 rcases yZ.mp (I.stkSub b hb) with e | hb
 ·rw [e]; exact I.free
 ·obtain ⟨_,o,ho,_⟩:=I.ok.funs.mem hb
  exact I.base.free b o ho (I.ok.frf b hb) fun z=>I.ok.exfs b z hb
theorem Inv.step {g':Array GenState}{t':Nat}{d':Drawn}{ch:List Addr} (I:Inv X pins σ H s)
  (hch:∀ b∈ch,(b∈X.ex\/X.s₀.heap.objs.size<=b)/\b≠X.env.locals/\(∀ x c,X.env.cells.lookup x=some c->c≠b)/\∀ p∈X.pn++pins,p.1≠b)
  (keep:∀ b o,b≠X.env.locals->b ∉ X.fs->b ∉ ch->s.heap.get? b=some o->H b=none->h'.get? b=some o)
  (slot:∀ b o,b≠X.env.locals->b∈X.fs->b ∉ ch->s.heap.get? b=some o->H b=none->∃ sl,h'.get? b=some { o with slots:=sl }) (free:∀ b o,b ∉ ch->s.heap.get? b=some o->H b=none->H' b=none)
  (there:∀ b o,b ∉ ch->s.heap.get? b=some o->∃ o',h'.get? b=some o')
  (tups:∀ b xs,H b=some (.tup xs)->H' b=some (.tup xs)) (frzs:∀ b o u,H b=some (.frz o u)->H' b=some (.frz o u)) (tbls:∀ b ps,H b=some (.tbl ps)->∃ more,H' b=some (.tbl (ps++more)))
  (ns:∀ m,s.heap.Ns X.env.locals m->h'.Ns X.env.locals m) (hok:HOk X.prog X.w H' h') (hg:AllBare g') :
  Inv X pins σ H' { s with heap:=h',gens:=g',drawn:=d',toks:=t' }:=by
 have neL:∀ b o,X.s₀.heap.get? b=some o->b≠X.env.locals:=fun b o e=>y9 (zr (yT e) I.ok.above)
 have neC:∀ b o,X.s₀.heap.get? b=some o->b ∉ X.ex->b ∉ ch:=fun b o e hx hb=>by
  rcases (hch b hb).1 with z | z
  ·exact hx z
  ·exact absurd (zr (yT e) z) (zN _)
 have cellK:∀ x c,X.env.cells.lookup x=some c->∀ v,s.heap.IsCell c v->h'.IsCell c v:=fun x c e v ⟨o,ho,hd⟩=>by
  have nch:c ∉ ch:=fun z=>(hch c z).2.2.1 x c e rfl
  by_cases hc:c∈X.fs
  ·obtain ⟨sl,q⟩:=slot c o (I.cne x c e) hc nch ho (I.freeC x c e)
   exact ⟨_,q,hd⟩
  ·exact ⟨o,keep c o (I.cne x c e) hc nch ho (I.freeC x c e),hd⟩
 refine ⟨I.ok,I.os,hg,⟨fun b o e n hb hx=>?_,fun b o e n hb hx=>?_,fun b o e n hx=>?_,fun b o e hx=>?_,fun b xs e=>tups b xs (I.base.tups b xs e),fun b o xs e=>frzs b o xs (I.base.frzs b o xs e),fun b ps e=>?_⟩,?_,fun x c e=>?_,?_,fun x c e=>?_,fun p hp=>?_,hok,I.len⟩
 ·exact keep b o (neL b o e) hb (neC b o e hx) (I.base.keep b o e n hb hx) (I.base.free b o e n hx)
 ·obtain ⟨sl,e1⟩:=I.base.slot b o e n hb hx
  obtain ⟨sl',e2⟩:=slot b _ (neL b o e) hb (neC b o e hx) e1 (I.base.free b o e n hx);exact ⟨sl',e2⟩
 ·obtain ⟨o',e1⟩:=I.base.there b o e hx
  exact free b o' (neC b o e hx) e1 (I.base.free b o e n hx)
 ·obtain ⟨o',e1⟩:=I.base.there b o e hx
  exact there b o' (neC b o e hx) e1
 ·obtain ⟨m1,e1⟩:=I.base.tbls b ps e
  obtain ⟨m2,e2⟩:=tbls b _ e1;exact ⟨m1++m2,by rw [e2,Array.append_assoc]⟩
 ·obtain ⟨m,hn,hl⟩:=I.loc
  refine ⟨m,ns m hn,fun i x v e1 e2 e3=>?_⟩
  obtain ⟨u,r,l⟩:=hl i x v e1 e2 e3;refine ⟨u,r,?_⟩;rcases l with l | ⟨k,c,e,z⟩
  ·exact .inl l
  ·exact .inr ⟨k,c,e,cellK x c e _ z⟩
 ·obtain ⟨v,z⟩:=I.cell x c e
  exact ⟨v,cellK x c e v z⟩
 ·obtain ⟨m,⟨o,_,_,ho,_⟩,_⟩:=I.loc
  exact free _ o (fun z=>(hch _ z).2.1 rfl) ho I.free
 ·obtain ⟨v,o,ho,hd⟩:=I.cell x c e
  exact free c o (fun z=>(hch c z).2.2.1 x c e rfl) ho (I.freeC x c e)
 ·obtain ⟨e,n,ne,nf,d⟩:=I.pin p hp
  have nch:p.1 ∉ ch:=fun z=>(hch p.1 z).2.2.2 p hp rfl
  exact ⟨keep p.1 p.2 ne nf nch e n,free p.1 p.2 nch e n,ne,nf,d⟩
theorem Inv.un {t':Nat} (I:Inv X pins σ H s) (u:Un X.fs [] H H' s.heap h') (hok:HOk X.prog X.w H' h'):Inv X pins σ H' { s with heap:=h',toks:=t' }:=by
 obtain ⟨m,⟨o,es,ep,ho,r⟩,_⟩:=id I.loc;obtain ⟨sl,hL⟩:=u.any ho I.free (by simp)
 exact I.step (g':=s.gens) (d':=s.drawn) (ch:=[]) (fun _ z=>nomatch z) (fun b o _ hb _ e n=>u.keep b o e n hb (by simp)) (fun b o _ hb _ e n=>u.slot b o e n hb (by simp)) (fun b o _ e n=>u.free b o e n (by simp)) (fun b o _ e=>u.there b o e (by simp)) u.tups u.frzs u.tbls (fun m' hm=>by
  obtain ⟨o',es',ep',ho',r'⟩:=hm;rw [ho] at ho'; cases ho';exact ⟨_,es',ep',hL,r'⟩) hok I.bare
theorem Inv.call{t':Nat}{d':Drawn} (I:Inv X pins σ H s) (u:Un (frs X.stack) ch H H' s.heap h') (hok:HOk X.prog X.w H' h') (hg:AllBare g')
  (hch:∀ b∈ch,(b∈X.ex\/X.s₀.heap.objs.size<=b)/\b≠X.env.locals/\(∀ x c,X.env.cells.lookup x=some c->c≠b)/\∀ p∈X.pn++pins,p.1≠b) :
  Inv X pins σ H' { s with heap:=h',gens:=g',drawn:=d',toks:=t' }:=by
 obtain ⟨m,⟨o,es,ep,ho,r⟩,_⟩:=id I.loc;obtain ⟨sl,hL⟩:=u.any ho I.free fun z=>(hch _ z).2.1 rfl
 exact I.step (ch:=ch) hch (fun b o hL hb hc e n=>u.keep b o e n (fun z=>(yZ.mp (I.stkSub b z)).elim hL hb) hc) (fun b o _ _ hc e n=>u.any e n hc) (fun b o hc e n=>u.free b o e n hc) (fun b o hc e=>u.there b o e hc) u.tups u.frzs u.tbls (fun m' hm=>by
  obtain ⟨o',es',ep',ho',r'⟩:=hm;rw [ho] at ho'; cases ho';exact ⟨_,es',ep',hL,r'⟩) hok hg
theorem Inv.turned {t':Nat} (I:Inv X pins σ H s) (k:∀ b o,b≠it->s.heap.get? b=some o->h'.get? b=some o) (hn:H it=none) (hL:it≠X.env.locals)
  (h1:it∈X.ex\/X.s₀.heap.objs.size<=it) (h2:∀ x c,X.env.cells.lookup x=some c->c≠it) (h3:∀ p∈X.pn++pins,p.1≠it):Inv X pins σ H { s with heap:=h',toks:=t' }:=by
 have nit:∀ b u,H b=some u->b≠it:=fun b u e z=>by rw [z,hn] at e; cases e
 refine I.step (g':=s.gens) (d':=s.drawn) (ch:=[it]) (fun b hb=>?_) (fun b o _ _ hc e _=>k b o (fun z=>hc (by simp [z])) e) (fun b o _ _ hc e _=>⟨o.slots,k b o (fun z=>hc (by simp [z])) e⟩) (fun _ _ _ _ n=>n)
  (fun b o hc e=>⟨o,k b o (fun z=>hc (by simp [z])) e⟩) (fun _ _ e=>e) (fun _ _ _ e=>e) (fun b ps e=>⟨#[],by rw [e]; simp⟩) (fun m hm=>?_) (fun b u e=>?_) I.bare
 ·have e:b=it:=by simpa using hb
  subst e;exact ⟨h1,hL,h2,h3⟩
 ·obtain ⟨o,es,ep,ho,r⟩:=hm
  exact ⟨o,es,ep,k _ o (yV hL) ho,r⟩
 ·refine (I.hok b u e).stay (fun c v hc q=>k c v ?_ q) (fun _ q=>q) fun _ _ q=>q
  rcases hc with z | z
  ·rw [z]; exact nit b u e
  ·exact nit c _ z
theorem Inv.tok (I:Inv X pins σ H s) (t:Nat):Inv X pins σ H { s with toks:=t }:=I.un (h':=s.heap) (t':=t) Un.refl I.hok
theorem Inv.kept {t':Nat} (I:Inv X pins σ H s) (k:∀ b u,s.heap.get? b=some u->h'.get? b=some u):Inv X pins σ H { s with heap:=h',toks:=t' }:=I.un (Un.kept k) (I.hok.kept k)
theorem Inv.laid {a:Addr}{o:HO}{t':Nat} (I:Inv X pins σ H s) (k:∀ b u,s.heap.get? b=some u->h'.get? b=some u) (hp:s.heap.objs.size<=a) (new:ObjOk X.prog X.w (upd H a o) h' a o) :
  Inv X pins σ (upd H a o) { s with heap:=h',toks:=t' }:=I.un (Un.laid k hp (I.hok.fresh hp)) (I.hok.laid k hp new)
theorem Inv.write {x e:Addr}{o:HO}{t':Nat} (I:Inv X pins σ H s) (mu:Mut (H x)) (he:e=x\/H e=some (.own x)) (k:∀ b u,b≠e->s.heap.get? b=some u->h'.get? b=some u) (heo:∃ u,h'.get? e=some u)
  (new:ObjOk X.prog X.w (upd H x o) h' x o):Inv X pins σ (upd H x o) { s with heap:=h',toks:=t' }:=I.un (Un.write mu he k heo) (I.hok.write mu he k heo new)
theorem Inv.pins_of {pins':List (Addr × Obj)} (I:Inv X pins σ H s) (h:∀ p∈pins',s.heap.get? p.1=some p.2/\H p.1=none/\p.1≠X.env.locals/\p.1 ∉ X.fs/\∀ v,p.2.data≠.cell v):Inv X pins' σ H s :=
 ⟨I.ok,I.os,I.bare,I.base,I.loc,I.cell,I.free,I.freeC,fun p hp=>(zR.mp hp).elim (fun z=>I.pin p (Ai _ z)) (h p),I.hok,I.len⟩
theorem jF {N:List Str} (hN:N.Nodup){x:Str} (a:N[i]?=some x) (b:N[j]?=some x):i=j:=by
 obtain ⟨h1,e1⟩:=yR.mp a;obtain ⟨h2,e2⟩:=yR.mp b;exact (List.getElem_inj hN).mp (e1.trans e2.symm)
theorem jG {M:Model}{A:Around}{E:Value->Shared->Prop}{x:Str}{v:V}{u:Value}{Q:Unit->Shared->Prop} (I:Inv X pins σ H s) (hN:X.N.Nodup) (hi:X.N[i]?=some x) (hx:Loc X.env.scope x) (r:RelV v u)
  (h:∀ s',Inv X pins (σ.set i (some v)) H s'->(∃ a,Heap.SameBut a s.heap s'.heap/\(a=X.env.locals\/X.env.cells.lookup x=some a))->Q () s') (hf:X.fn x=true\/X.env.scope.names.lookup x=some .local:=by first | exact .inl rfl | exact .inr rfl | assumption):wpAny M A (storeName X.env x u) Q E s:=by
 obtain ⟨m,hn,hl⟩:=id I.loc;have hcls:(X.env.scope.kind == .class || (X.env.scope.kind == .module && X.env.locals != X.env.globals))=false:=by rw [I.ok.kind]; rfl
 have hiσ:i < σ.length:=by rw [I.len]; exact (yR.mp hi).1
 have cne:=I.cne;have tracked:∀ {a:Addr}{h':Heap},(∃ o,s.heap.get? a=some o/\H a=none)->Heap.SameBut a s.heap h'->HOk X.prog X.w H h':=fun {a h'} ha hs b ob e=>by
  obtain ⟨_,_,hfree⟩:=ha;refine (I.hok b ob e).stay (fun c w' hc q=>(hs.2 c ?_).trans q) (fun _ q=>q) fun _ _ q=>q
  rintro rfl;rcases hc with rfl | hc
  ·rw [hfree] at e; cases e
  ·rw [hfree] at hc; cases hc
 rcases hx with hk | hk
 ·refine wpAny_storeName_local hk hn (fun h' hn' hs=>?_) hcls
  obtain ⟨oL,_,_,hoL,_⟩:=id hn;refine h _ ⟨I.ok,I.os,I.bare,⟨fun b o e n hb hx=>?_,fun b o e n hb hx=>?_,I.base.free,fun b o e hx=>?_,I.base.tups,I.base.frzs,I.base.tbls⟩,⟨_,hn',fun j y v' e1 e2 e3=>?_⟩,fun y c e=>?_,I.free,I.freeC,fun p hp=>?_,tracked ⟨oL,hoL,I.free⟩ hs,by simpa using I.len⟩ ⟨_,hs,.inl rfl⟩
  ·exact (hs.2 b (y9 (zr (yT e) I.ok.above))).trans (I.base.keep b o e n hb hx)
  ·obtain ⟨sl,e1⟩:=I.base.slot b o e n hb hx
   exact ⟨sl,(hs.2 b (y9 (zr (yT e) I.ok.above))).trans e1⟩
  ·obtain ⟨o',e1⟩:=I.base.there b o e hx
   exact ⟨o',(hs.2 b (y9 (zr (yT e) I.ok.above))).trans e1⟩
  ·by_cases hj:j=i
   ·subst hj
    rw [hi] at e1; cases e1;rw [AZ hiσ] at e2;cases e2;exact ⟨u,r,.inl ⟨hk,by simp⟩⟩
   ·rw [AJ (yV hj)] at e2
    obtain ⟨u',r',q⟩:=hl j y v' e1 e2 e3;refine ⟨u',r',?_⟩;rcases q with ⟨k,e⟩ | ⟨k,c,e,z⟩
    ·refine .inl ⟨k,?_⟩
     have:y≠x:=fun e=>hj (jF hN e1 (e ▸ hi))
     simp [this,e]
    ·exact .inr ⟨k,c,e,z.sameBut hs (cne y c e)⟩
  ·obtain ⟨w',z⟩:=I.cell y c e
   exact ⟨w',z.sameBut hs (cne y c e)⟩
  ·obtain ⟨e,n,ne,nf,d⟩:=I.pin p hp
   exact ⟨(hs.2 p.1 ne).trans e,n,ne,nf,d⟩
 ·have hfn:X.fn x=true:=by
   rcases hf with z | z
   ·exact z
   ·rw [z] at hk; cases hk
  obtain ⟨c,hc⟩:=I.ok.has x (.inl hk);obtain ⟨w',z⟩:=I.cell x c hc;refine wpAny_storeName_cell I.ok.kind hk hc z (fun h' hc' hs=>?_)
  obtain ⟨oc,hoc,hocd⟩:=id z;refine h { s with heap:=h' } ⟨I.ok,I.os,I.bare,⟨fun b o e n hb hx=>?_,fun b o e n hb hx=>?_,I.base.free,fun b o e hx=>?_,I.base.tups,I.base.frzs,I.base.tbls⟩,⟨m,hn.sameBut hs (yV (cne x c hc)),fun j y v' e1 e2 e3=>?_⟩,fun y c' e=>?_,I.free,I.freeC,fun p hp=>?_,tracked ⟨oc,hoc,I.freeC x c hc⟩ hs,by simpa using I.len⟩ ⟨c,hs,.inr hc⟩
  ·exact (hs.2 b (y9 (zr (yT e) (I.ok.cab x c hfn hc)))).trans (I.base.keep b o e n hb hx)
  ·obtain ⟨sl,e1⟩:=I.base.slot b o e n hb hx
   exact ⟨sl,(hs.2 b (y9 (zr (yT e) (I.ok.cab x c hfn hc)))).trans e1⟩
  ·obtain ⟨o',e1⟩:=I.base.there b o e hx
   exact ⟨o',(hs.2 b (y9 (zr (yT e) (I.ok.cab x c hfn hc)))).trans e1⟩
  ·by_cases hj:j=i
   ·subst hj
    rw [hi] at e1; cases e1;rw [AZ hiσ] at e2;cases e2;exact ⟨u,r,.inr ⟨.inl hk,c,hc,hc'⟩⟩
   ·rw [AJ (yV hj)] at e2
    obtain ⟨u',r',q⟩:=hl j y v' e1 e2 e3;refine ⟨u',r',?_⟩;rcases q with q | ⟨k,c',e,z'⟩
    ·exact .inl q
    ·refine .inr ⟨k,c',e,z'.sameBut hs ?_⟩
     rintro rfl;exact hj (jF hN e1 (I.ok.inj _ _ _ e hc ▸ hi))
  ·by_cases hcc:c'=c
   ·subst hcc; exact ⟨_,hc'⟩
   ·obtain ⟨w2,z2⟩:=I.cell y c' e
    exact ⟨w2,z2.sameBut hs hcc⟩
  ·obtain ⟨e,n,ne,nf,d⟩:=I.pin p hp
   refine ⟨(hs.2 p.1 ?_).trans e,n,ne,nf,d⟩;intro q;rw [q,hoc] at e;have q':oc=p.2:=zp e;exact d w' (by rw [<- q']; exact hocd)
theorem jH {M:Model}{A:Around}{E:Value->Shared->Prop}{x:Str}{v:V}{u:Value}{Q:Unit->Shared->Prop} (I:Inv X pins σ H s) (hN:X.N.Nodup) (hi:X.N[i]?=some x) (hx:Loc X.env.scope x) (r:RelV v u)
  (h:∀ s',Inv X pins (σ.set i (some v)) H s'->Q () s') (hf:X.fn x=true\/X.env.scope.names.lookup x=some .local:=by first | exact .inl rfl | exact .inr rfl | assumption):wpAny M A (storeName X.env x u) Q E s :=
 jG I hN hi hx r (fun s' I' _=>h s' I') hf
theorem Inv.call' (I:Inv X pins σ H s) (ho:s'.os=s.os) (u:Un (frs X.stack) ch H H' s.heap s'.heap) (hok:HOk X.prog X.w H' s'.heap) (hg:AllBare s'.gens)
  (hch:∀ b∈ch,(b∈X.ex\/X.s₀.heap.objs.size<=b)/\b≠X.env.locals/\(∀ x c,X.env.cells.lookup x=some c->c≠b)/\∀ p∈X.pn++pins,p.1≠b):Inv X pins σ H' s':=by
 obtain ⟨h',g',d',t',o'⟩:=s';have e:o'=s.os:=ho;subst e;exact I.call (g':=g') (t':=t') (d':=d') u hok hg hch
end
abbrev XK:=Value->Option Addr->Hp->Prop
abbrev St:=List (Option V)
abbrev VK:=V->Hp->Prop
abbrev TE:=St->Hp->VK->Prop
abbrev TT:=St->Hp->(Bool->Hp->Prop)->Prop
abbrev TA:=St->Hp->(List V->Hp->Prop)->Prop
structure Ends where
 nx:St->Hp->Prop
 rt:VK
 bk:St->Hp->Prop:=fun _ _=>False
 ct:St->Hp->Prop:=fun _ _=>False
abbrev TS:=Ends->St->Hp->Prop
def EP (X:Cx) (pins:List (Addr × Obj)) (σ:St) (Q:VK) (u:Value) (s':Shared):Prop:=∃ v H',Inv X pins σ H' s'/\RelV v u/\Q v H'
def TP (X:Cx) (pins:List (Addr × Obj)) (σ:St) (Q:Bool->Hp->Prop) (b:Bool) (s':Shared):Prop:=∃ H',Inv X pins σ H' s'/\Q b H'
def AP (X:Cx) (pins:List (Addr × Obj)) (σ:St) (Q:List V->Hp->Prop) (us:List Value) (s':Shared):Prop:=∃ vs H',Inv X pins σ H' s'/\Vals vs us/\Q vs H'
def SP (X:Cx) (pins:List (Addr × Obj)) (D:Ends) (f:Flow) (s':Shared):Prop :=
 match f with
 | .next=>∃ σ' H',Inv X pins σ' H' s'/\D.nx σ' H'
 | .brk=>∃ σ' H',Inv X pins σ' H' s'/\D.bk σ' H'
 | .cont=>∃ σ' H',Inv X pins σ' H' s'/\D.ct σ' H'
 | .ret u=>∃ v σ' H',Inv X pins σ' H' s'/\RelV v u/\D.rt v H'
def PE (X:Cx) (e:Expr) (t:TE):Prop :=
 ∀ (pins:List (Addr × Obj)) (s:Shared) (σ:St) (H:Hp) (Q:VK),Inv X pins σ H s->t σ H Q->wpAny (model X.prog X.w) X.A (eval e X.env) (EP X pins σ Q) X.xe s
def PT (X:Cx) (e:Expr) (t:TT):Prop :=
 ∀ (pins:List (Addr × Obj)) (s:Shared) (σ:St) (H:Hp) (Q:Bool->Hp->Prop),Inv X pins σ H s->t σ H Q->wpAny (model X.prog X.w) X.A (isTrue e X.env (eval e X.env)) (TP X pins σ Q) X.xe s
def PW (X:Cx) (e:Expr) (t:TT):Prop :=
 ∀ (whole:Sem Value) (pins:List (Addr × Obj)) (s:Shared) (σ:St) (H:Hp) (Q:Bool->Hp->Prop),Inv X pins σ H s->t σ H Q->wpAny (model X.prog X.w) X.A (isTrue e X.env whole) (TP X pins σ Q) X.xe s
theorem PW.pt{e:Expr}{t:TT} (h:PW X e t):PT X e t:=h _
def PA (X:Cx) (es:List Expr) (t:TA):Prop :=
 ∀ (pos:Pos) (pins:List (Addr × Obj)) (s:Shared) (σ:St) (H:Hp) (Q:List V->Hp->Prop),Inv X pins σ H s->t σ H Q->wpAny (model X.prog X.w) X.A (spliced (backTo pos (starEach es X.env))) (AP X pins σ Q) X.xe s
def PS (X:Cx) (st:Stmt) (t:TS):Prop :=
 ∀ (pins:List (Addr × Obj)) (s:Shared) (σ:St) (H:Hp) (D:Ends),Inv X pins σ H s->t D σ H->wpAny (model X.prog X.w) X.A (exec st X.env) (SP X pins D) X.xe s
def PSs (X:Cx) (st:List Stmt) (t:TS):Prop :=
 ∀ (pins:List (Addr × Obj)) (s:Shared) (σ:St) (H:Hp) (D:Ends),Inv X pins σ H s->t D σ H->wpAny (model X.prog X.w) X.A (execs st X.env) (SP X pins D) X.xe s
theorem thn {α:Type}{t:Sem α}{Q Q':α->Shared->Prop}{E:Value->Shared->Prop} (h:wpAny M A t Q E s) (hQ:∀ a s,Q a s->Q' a s):wpAny M A t Q' E s:=zA h hQ fun _ _ x=>x
section
variable {X:Cx}
structure TVar (i:Nat) (σ:St) (H:Hp) (Q:VK):Prop where
 ex:∃ v,σ[i]?=some (some v)/\Q v H
def tVar (i:Nat):TE:=fun σ H Q=>TVar i σ H Q
def tC (v:V):TE:=fun _ H Q=>Q v H
theorem oI{x:Str} (hN:X.N[i]?=some x) (hv:Vis X.env.scope x) (hd:(x == ("__debug__" : Str))=false:=by decide) (hcd:(x == ("__classdict__" : Str))=false:=by decide):PE X (.Name x pos) (tVar i):=by
 intro pins s σ H Q I h;obtain ⟨v,e,h⟩:=h;obtain ⟨m,hn,hl⟩:=I.loc;obtain ⟨u,r,l⟩:=hl i x v hN e hv;have fin:EP X pins σ Q u s:=⟨v,H,I,r,h⟩;rcases l with ⟨hk,hm⟩ | ⟨hk,c,hc,hcell⟩
 ·exact wpAny_Name (wpAny_loadName_local I.ok.kind hk hn hm fin) hd
 ·rcases hk with hk | hk
  ·exact wpAny_Name (wpAny_loadName_cell I.ok.kind hk hc hcell fin) hd
  ·exact wpAny_Name (wpAny_loadName_free I.ok.kind hk hc hcell fin hcd) hd
theorem oJ {i j pos}:PE X (.Constant (.int i) j pos) (tC (.int i)):=fun _ _ _ H _ I h=>wpAny_Constant_int ⟨.int i,H,I.tok _,⟨_,rfl⟩,h⟩
theorem oK {b j pos}:PE X (.Constant (.bool b) j pos) (tC (.bl b)):=fun _ _ _ H _ I h=>Constant_bool ⟨.bl b,H,I,rfl,h⟩
theorem oN {j pos}:PE X (.Constant .none j pos) (tC .non):=fun _ _ _ H _ I h=>Constant_none ⟨.non,H,I,rfl,h⟩
theorem oO {x j pos}:PE X (.Constant (.str x) j pos) (tC (.str x)):=fun _ _ _ H _ I h=>Calls.Constant_str ⟨.str x,H,I.tok _,⟨_,rfl⟩,h⟩
def Gl (X:Cx) (x:Str):Prop:=X.env.kindOf x=some .globalImplicit
theorem fO {E:Value->Shared->Prop}{σ:St}{x:Str}{u:Value}{pos:Pos} (I:Inv X pins σ H s) (hg:Gl X x) (hm:X.mg x=some u) (h:Q u s)
  (hd:(x == ("__debug__" : Str))=false:=by decide):wpAny (model X.prog X.w) X.A (eval (.Name x pos) X.env) Q E s :=
 Calls.Name_function_global I.ok.kind hg (Calls.loadGlobal_global (by rw [I.ok.glob]; exact I.mod.glob.keeps I.bk) hm h) hd
theorem dh {E:Value->Shared->Prop}{σ:St}{x:Str}{u:Value}{pos:Pos} (I:Inv X pins σ H s) (hg:Gl X x) (hm:X.mg x=none) (hv:bootBuiltins x=some u) (h:Q u s)
  (hn:x ≠ "__name__" := by decide) (hd:(x == ("__debug__" : Str))=false:=by decide):wpAny (model X.prog X.w) X.A (eval (.Name x pos) X.env) Q E s:=by
 obtain ⟨mb,h1,h2⟩:=I.mod.blt;exact Calls.Name_function_global I.ok.kind hg (Calls.loadGlobal_builtin (by rw [I.ok.glob]; exact I.mod.glob.keeps I.bk) hm (by rw [I.ok.blt]; exact h1.keeps I.bk) ((h2 x hn).trans hv) h) hd
theorem oP {x:Str}{v:V}{u:Value} (hg:Gl X x) (hm:X.mg x=some u) (r:RelV v u) (hd:(x == ("__debug__" : Str))=false:=by decide):PE X (.Name x pos) (tC v) :=
 fun _ _ _ H _ I h=>fO I hg hm ⟨v,H,I,r,h⟩ hd
theorem oQ {x:Str}{v:V}{u:Value} (hg:Gl X x) (hm:X.mg x=none) (hv:bootBuiltins x=some u) (r:RelV v u) (hn:x ≠ "__name__" := by decide) (hd:(x == ("__debug__" : Str))=false:=by decide):PE X (.Name x pos) (tC v) :=
 fun _ _ _ H _ I h=>dh I hg hm hv ⟨v,H,I,r,h⟩ hn hd
variable {a b:Expr}{ta tb:TE}{pos:Pos}
def PC (X:Cx) (op:CmpOp) (a b:Expr) (t:TE):Prop :=
 ∀ (pins:List (Addr × Obj)) (s:Shared) (σ:St) (H:Hp) (Q:VK),Inv X pins σ H s->t σ H Q ->
  wpAny (model X.prog X.w) X.A (eval a X.env) (fun v s₁=>wpAny (model X.prog X.w) X.A (eval b X.env) (fun u s₂=>wpAny (model X.prog X.w) X.A (compareOp op v u) (EP X pins σ Q) X.xe s₂) X.xe s₁) X.xe s
def tB (t:TE):TT:=fun σ H Q=>t σ H fun x H1=>∃ c,x=.bl c/\Q c H1
theorem jI{t:TE} (h:PC X op a b t) (h1:behindInMarks op b=false:=by first | exact nobehind _ (by decide) (by decide) | rfl):PT X (.Compare a [op] [b] pos) (tB t):=by
 intro pins s σ H Q I hw;refine wpAny_isTrue_Compare1 (thn (h pins s σ H _ I hw) fun v s1 h1=>thn h1 fun u s2 h2=>thn h2 fun c s3 ⟨x,H1,I1,r1,q1⟩=>?_) h1
 obtain ⟨d,rfl,q⟩:=q1;cases r1;exact Aw ⟨H1,I1,q⟩
theorem oR {e:Expr}{t:TE} (h:PE X e t) (he:∀ whole,isTrue e X.env whole=(do let v <- whole; standAt e.pos; holding [v] (truthy v)):=by intro _; rfl):PT X e (tB t):=by
 intro pins s σ H Q I hw;refine isTrue_plain (thn (h pins s σ H _ I hw) fun v s1 ⟨x,H1,I1,r1,q1⟩=>?_) (he _)
 obtain ⟨d,rfl,q⟩:=q1;cases r1;exact Aw ⟨H1,I1,q⟩
variable {tA tB':TT}{rest:List Expr}
def tAnd (t u:TT):TT:=fun σ H Q=>t σ H fun c H1=>if c=true then u σ H1 Q else Q false H1
def tOr (t u:TT):TT:=fun σ H Q=>t σ H fun c H1=>if c=true then Q true H1 else u σ H1 Q
def tNot (t:TT):TT:=fun σ H Q=>t σ H fun c H1=>Q (!c) H1
theorem oS (ha:PT X a tA):PW X (.BoolOp .And [a] pos) tA:=by
 intro wh pins s σ H Q I h;refine isTrue_and (thn (ha pins s σ H Q I h) fun c s1 e=>?_)
 cases c with
 | true=>exact isTrue_and_nil e
 | false=>exact e
theorem oT (ha:PT X a tA):PW X (.BoolOp .Or [a] pos) tA:=by
 intro wh pins s σ H Q I h;refine isTrue_or (thn (ha pins s σ H Q I h) fun c s1 e=>?_)
 cases c with
 | false=>exact isTrue_or_nil e
 | true=>exact e
theorem oU (ha:PT X a tA) (hb:PW X (.BoolOp .And (b :: rest) pos) tB'):PW X (.BoolOp .And (a :: b :: rest) pos) (tAnd tA tB'):=by
 intro wh pins s σ H Q I h;refine isTrue_and (thn (ha pins s σ H _ I h) fun c s1 ⟨H1,I1,q1⟩=>?_)
 cases c with
 | true=>exact hb wh pins s1 σ H1 Q I1 q1
 | false=>exact ⟨H1,I1,q1⟩
theorem oV (ha:PT X a tA) (hb:PW X (.BoolOp .Or (b :: rest) pos) tB'):PW X (.BoolOp .Or (a :: b :: rest) pos) (tOr tA tB'):=by
 intro wh pins s σ H Q I h;refine isTrue_or (thn (ha pins s σ H _ I h) fun c s1 ⟨H1,I1,q1⟩=>?_)
 cases c with
 | true=>exact ⟨H1,I1,q1⟩
 | false=>exact hb wh pins s1 σ H1 Q I1 q1
theorem oW (ha:PT X a tA):PT X (.UnaryOp .Not a pos) (tNot tA):=by
 intro pins s σ H Q I h;exact isTrue_not (ha pins s σ H (fun c H1=>Q (!c) H1) I h)
def tAndV (ta tb:TE):TE:=fun σ H Q=>ta σ H fun x H1=>∃ c,x=.bl c/\if c=true then tb σ H1 Q else Q (.bl false) H1
def tOrV (ta tb:TE):TE:=fun σ H Q=>ta σ H fun x H1=>∃ c,x=.bl c/\if c=true then Q (.bl true) H1 else tb σ H1 Q
def tNotV (ta:TE):TE:=fun σ H Q=>ta σ H fun x H1=>∃ c,x=.bl c/\Q (.bl (!c)) H1
theorem oX {op}{t:TE} (h:PE X a t):PE X (.BoolOp op [a] pos) t:=fun pins s σ H Q I hw=>BoolOp_one (h pins s σ H Q I hw)
theorem oY (ha:PE X a ta) (hb:PE X (.BoolOp .And (b :: rest) pos) tb):PE X (.BoolOp .And (a :: b :: rest) pos) (tAndV ta tb):=by
 intro pins s σ H Q I h;refine BoolOp_and (thn (ha pins s σ H _ I h) fun v s1 ⟨x,H1,I1,r1,q1⟩=>?_)
 obtain ⟨c,rfl,q1⟩:=q1;cases r1;refine Aw ?_;cases c with
 | true=>exact hb pins s1 σ H1 Q I1 q1
 | false=>exact ⟨.bl false,H1,I1,rfl,q1⟩
theorem oZ (ha:PE X a ta) (hb:PE X (.BoolOp .Or (b :: rest) pos) tb):PE X (.BoolOp .Or (a :: b :: rest) pos) (tOrV ta tb):=by
 intro pins s σ H Q I h;refine BoolOp_or (thn (ha pins s σ H _ I h) fun v s1 ⟨x,H1,I1,r1,q1⟩=>?_)
 obtain ⟨c,rfl,q1⟩:=q1;cases r1;refine Aw ?_;cases c with
 | false=>exact hb pins s1 σ H1 Q I1 q1
 | true=>exact ⟨.bl true,H1,I1,rfl,q1⟩
theorem o4 (ha:PE X a ta):PE X (.UnaryOp .Not a pos) (tNotV ta):=by
 intro pins s σ H Q I h;refine UnaryOp_ (thn (ha pins s σ H _ I h) fun v s1 ⟨x,H1,I1,r1,q1⟩=>?_)
 obtain ⟨c,rfl,q1⟩:=q1;cases r1;exact not_of (Aw ⟨.bl (!c),H1,I1,rfl,q1⟩)
def tIf (t:TT) (ta tb:TE):TE:=fun σ H Q=>t σ H fun c H1=>if c=true then ta σ H1 Q else tb σ H1 Q
theorem o5 {c:Expr} (hc:PT X c tA) (ha:PE X a ta) (hb:PE X b tb):PE X (.IfExp c a b pos) (tIf tA ta tb):=by
 intro pins s σ H Q I h;refine wpAny_IfExp (thn (hc pins s σ H _ I h) fun d s1 ⟨H1,I1,q1⟩=>?_)
 cases d with
 | true=>exact ha pins s1 σ H1 Q I1 q1
 | false=>exact hb pins s1 σ H1 Q I1 q1
end
def SqL (K:PySem.W.Frag) (H:Hp) (a:Addr) (xs:List V):Prop :=
 Rd H a (.lst xs) \/
  ∃ (o:Obj) (its:Array Value) (n:Nat),K.lookup a=some o/\o.cls=.type "list" /\ o.dict=none/\o.data=.seq its n/\its.size<=sizeLine/\Vals xs its.toList
def SqT (K:PySem.W.Frag) (H:Hp) (a:Addr) (xs:List V):Prop :=
 Rd H a (.tup xs) \/
  ∃ (o:Obj) (its:Array Value) (n:Nat),K.lookup a=some o/\o.cls=.type "tuple" /\ o.data=.seq its n/\its.size<=sizeLine/\Vals xs its.toList
def absV:Value->Option V
 | .none=>some .non
 | .bool b=>some (.bl b)
 | .int i _=>some (.int i)
 | .str x _=>some (.str x)
 | .bytes b _=>some (.byt b)
 | .float b _=>some (.flt b)
 | .ref a=>some (.ref a)
 | .type n=>some (.ty n)
 | _=>none
theorem RelV.abs {x:V}{u:Value} (r:RelV x u):absV u=some x:=by
 cases x with
 | non=>cases r; rfl
 | bl _=>cases r; rfl
 | int _=>obtain ⟨t,rfl⟩:=r; rfl
 | str _=>obtain ⟨t,rfl⟩:=r; rfl
 | byt _=>obtain ⟨t,rfl⟩:=r; rfl
 | flt _=>obtain ⟨t,rfl⟩:=r; rfl
 | ref _=>cases r; rfl
 | ty _=>cases r; rfl
theorem RelV.inj {x:V}{u:Value} (r:RelV x u) (q:RelV y u):x=y:=zp (r.abs.symm.trans q.abs)
theorem Vals.inj:∀ {xs ys:List V}{us:List Value},Vals xs us->Vals ys us->xs=ys
 | _,_,_,.nil,.nil=>rfl
 | _,_,_,.cons r t,.cons r' t'=>by rw [r.inj r',Vals.inj t t']
section
variable {X:Cx}{pins:List (Addr × Obj)}{σ:St}{H:Hp}{s:Shared}{a:Addr}{xs ys:List V}
theorem SqL.of (h:H a=some (.lst xs)):SqL K H a xs:=.inl (.inl h)
theorem SqT.of (h:H a=some (.tup xs)):SqT K H a xs:=.inl (.inl h)
theorem Inv.list (I:Inv X pins σ H s) (h:SqL X.K H a xs):∃ its:List Value,Vals xs its/\PlainL s.heap a its.toArray/\xs.length<=sizeLine:=by
 rcases h with h | ⟨o,its,n,hk,hc,hd,hs,hz,r⟩
 ·obtain ⟨z,its,n,r,e⟩:=h.ok I.hok
  exact ⟨its,r,⟨_,n,e,rfl,rfl,rfl⟩,z⟩
 ·refine ⟨its.toList,r,⟨o,n,I.kIn a o hk,hc,hd,by simpa using hs⟩,?_⟩
  have e:=r.length;simp only [Array.length_toList] at e;omega
theorem Inv.tuple (I:Inv X pins σ H s) (h:SqT X.K H a xs):∃ its:List Value,Vals xs its/\IsTup s.heap a its.toArray/\xs.length<=sizeLine:=by
 rcases h with h | ⟨o,its,n,hk,hc,hs,hz,r⟩
 ·obtain ⟨z,its,r,p⟩:=h.ok I.hok
  exact ⟨its,r,p,z⟩
 ·refine ⟨its.toList,r,⟨o,I.kIn a o hk,hc,n,by simpa using hs⟩,?_⟩
  have e:=r.length;simp only [Array.length_toList] at e;omega
theorem Inv.list_inj (I:Inv X pins σ H s) (h:SqL X.K H a xs) (h':SqL X.K H a ys):xs=ys:=by
 obtain ⟨its,r,⟨o,n,e,_,_,d⟩,_⟩:=I.list h;obtain ⟨its',r',⟨o',n',e',_,_,d'⟩,_⟩:=I.list h';rw [e] at e'; cases e';rw [d] at d';injection d' with d1 _
 have:its=its':=by simpa using za Array.toList d1
 subst this;exact r.inj r'
theorem Inv.tuple_inj (I:Inv X pins σ H s) (h:SqT X.K H a xs) (h':SqT X.K H a ys):xs=ys:=by
 obtain ⟨its,r,⟨o,e,_,n,d⟩,_⟩:=I.tuple h;obtain ⟨its',r',⟨o',e',_,n',d'⟩,_⟩:=I.tuple h';rw [e] at e'; cases e';rw [d] at d';injection d' with d1 _
 have:its=its':=by simpa using za Array.toList d1
 subst this;exact r.inj r'
end
abbrev Cx.wish (X:Cx) (E:Value->Shared->Prop):Cx:={ X with xe:=E }
abbrev Cx.nox (X:Cx):Cx:=X.wish fun _ _=>False
theorem Cx.Ok.wish (ok:X.Ok) (E:Value->Shared->Prop):(X.wish E).Ok :=
 ⟨ok.mod,ok.kind,ok.glob,ok.blt,ok.above,ok.inj,ok.has,ok.cab,ok.hd,ok.frames,ok.stk,ok.exf,ok.bs,ok.bsz,ok.noex,ok.exfs,ok.funs,ok.frf⟩
theorem Cx.Ok.unwish{E:Value->Shared->Prop} (ok:(X.wish E).Ok):X.Ok :=
 ⟨ok.mod,ok.kind,ok.glob,ok.blt,ok.above,ok.inj,ok.has,ok.cab,ok.hd,ok.frames,ok.stk,ok.exf,ok.bs,ok.bsz,ok.noex,ok.exfs,ok.funs,ok.frf⟩
section
variable {X:Cx}{pins:List (Addr × Obj)}{σ:St}{H:Hp}{s:Shared}{E:Value->Shared->Prop}
theorem Inv.wish (I:Inv X pins σ H s) (E:Value->Shared->Prop):Inv (X.wish E) pins σ H s:=⟨I.ok.wish E,I.os,I.bare,I.base,I.loc,I.cell,I.free,I.freeC,I.pin,I.hok,I.len⟩
theorem Inv.unwish (I:Inv (X.wish E) pins σ H s):Inv X pins σ H s:=⟨I.ok.unwish,I.os,I.bare,I.base,I.loc,I.cell,I.free,I.freeC,I.pin,I.hok,I.len⟩
theorem SP.unwish{f:Flow} (h:SP (X.wish E) pins D f s'):SP X pins D f s':=by
 cases f with
 | next=>obtain ⟨σ',H',I,q⟩:=h; exact ⟨σ',H',I.unwish,q⟩
 | brk=>obtain ⟨σ',H',I,q⟩:=h; exact ⟨σ',H',I.unwish,q⟩
 | cont=>obtain ⟨σ',H',I,q⟩:=h; exact ⟨σ',H',I.unwish,q⟩
 | ret u=>obtain ⟨v,σ',H',I,r,q⟩:=h; exact ⟨v,σ',H',I.unwish,r,q⟩
theorem PSs.nox {st:List Stmt}{t:TS} (h:PSs X.nox st t):PSs X st t:=fun pins s σ H D I hw =>
 zA (h pins s σ H D (I.wish _) hw) (fun _ _ q=>q.unwish) fun _ _ z=>False.elim z
end
section
variable {X:Cx}{st:Stmt}{rest:List Stmt}{t u:TS}{e:Expr}{te:TE}{pos:Pos}
def tNext:TS:=fun D σ H=>D.nx σ H
def tSeq (t u:TS):TS:=fun D σ H=>t { D with nx:=u D } σ H
theorem o6:PSs X [] tNext:=fun _ _ σ H _ I h=>wpAny_execs_nil ⟨σ,H,I,h⟩
theorem jJ (h1:PS X st t) (h2:PSs X rest u):PSs X (st :: rest) (tSeq t u):=by
 intro pins s σ H D I h;refine wpAny_execs_cons (thn (h1 pins s σ H { D with nx:=u D } I h) fun f s1 q=>?_)
 cases f with
 | next =>
  obtain ⟨σ',H',I',q⟩:=q;exact h2 pins s1 σ' H' D I' q
 | ret v=>exact q
 | brk=>exact q
 | cont=>exact q
theorem o7 (h1:PS X st t):PSs X [st] t:=by
 intro pins s σ H D I h;refine wpAny_execs_cons (thn (h1 pins s σ H D I h) fun f s1 q=>?_)
 cases f with
 | next=>exact wpAny_execs_nil q
 | ret v=>exact q
 | brk=>exact q
 | cont=>exact q
def tCont:TS:=fun D σ H=>D.ct σ H
theorem o8:PS X (.Continue pos) tCont:=fun _ _ σ H _ I h=>wpAny_Continue ⟨σ,H,I,h⟩
theorem Inv.quiet {pins:List (Addr × Obj)}{σ:St}{H:Hp}{s:Shared} (I:Inv X pins σ H s):interactive X.env=false:=by simp [interactive,I.ok.kind]
def tDrop (te:TE):TS:=fun D σ H=>te σ H fun _ H1=>D.nx σ H1
theorem o9 (he:PE X e te) (hs:swapsWith e none pos.line X.env=pure false:=by rfl):PS X (.Expr e pos) (tDrop te):=by
 intro pins s σ H D I h;exact wpAny_Expr_any (thn (he pins s σ H _ I h) fun v s1 ⟨x,H1,I1,r1,q1⟩=>⟨σ,H1,I1,q1⟩) I.quiet hs
def tRet (te:TE):TS:=fun D σ H=>te σ H D.rt
theorem pe (he:PE X e te):PS X (.Return (some e) pos) (tRet te):=by
 intro pins s σ H D I h;exact wpAny_Return_some (thn (he pins s σ H _ I h) fun v s1 ⟨x,H1,I1,r1,q1⟩=>⟨x,σ,H1,I1,r1,q1⟩)
def tIfS (c:TT) (t u:TS):TS:=fun D σ H=>c σ H fun b H1=>if b=true then t D σ H1 else u D σ H1
theorem pf {c:Expr}{a b:List Stmt}{tc:TT} (hc:PT X c tc) (ha:PSs X a t) (hb:PSs X b u):PS X (.If c a b pos) (tIfS tc t u):=by
 intro pins s σ H D I h;refine wpAny_If (thn (hc pins s σ H _ I h) fun d s1 ⟨H1,I1,q1⟩=>?_)
 cases d with
 | true=>exact ha pins s1 σ H1 D I1 q1
 | false=>exact hb pins s1 σ H1 D I1 q1
def tNever:TS:=fun _ _ _=>False
theorem pw:PS X st tNever:=fun _ _ _ _ _ _ h=>h.elim
end
abbrev TG:=V->St->Hp->(St->Hp->Prop)->Prop
abbrev TGs:=List V->St->Hp->(St->Hp->Prop)->Prop
def PG (X:Cx) (target:Expr) (t:TG):Prop :=
 ∀ (pins:List (Addr × Obj)) (s:Shared) (σ:St) (H:Hp) (v:V) (u:Value) (Q:St->Hp->Prop),Inv X pins σ H s->RelV v u->t v σ H Q ->
  wpAny (model X.prog X.w) X.A (assign target X.env u) (fun _ s'=>∃ σ' H',Inv X pins σ' H' s'/\Q σ' H') X.xe s
def PGs (X:Cx) (ts:List Expr) (t:TGs):Prop :=
 ∀ (pins:List (Addr × Obj)) (s:Shared) (σ:St) (H:Hp) (vs:List V) (us:List Value) (Q:St->Hp->Prop),Inv X pins σ H s->Vals vs us->t vs σ H Q ->
  wpAny (model X.prog X.w) X.A (assignInOrder ((assignEach ts X.env).map (·.2)) us) (fun _ s'=>∃ σ' H',Inv X pins σ' H' s'/\Q σ' H') X.xe s
abbrev TSet:=V->V->V->Hp->(Hp->Prop)->Prop
def PSet (X:Cx) (t:TSet):Prop :=
 ∀ (pins:List (Addr × Obj)) (s:Shared) (σ:St) (H:Hp) (o i v:V) (ov iv u:Value) (Q:Hp->Prop),Inv X pins σ H s->RelV o ov->RelV i iv->RelV v u->t o i v H Q ->
  wpAny (model X.prog X.w) X.A (setItem ov iv u) (fun _ s'=>∃ H',Inv X pins σ H' s'/\Q H') X.xe s
section
variable {X:Cx}{pos:Pos}
def gName (i:Nat):TG:=fun v σ H Q=>Q (σ.set i (some v)) H
theorem pA{x:Str} (hN:X.N.Nodup) (hi:X.N[i]?=some x) (hx:Loc X.env.scope x) (hf:X.fn x=true\/X.env.scope.names.lookup x=some .local:=by first | exact .inl rfl | exact .inr rfl | assumption):PG X (.Name x pos) (gName i):=by
 intro pins s σ H v u Q I r h;exact wpAny_assign_Name (jH I hN hi hx r (fun s' I'=>⟨_,H,I',h⟩) hf)
def gNil:TGs:=fun vs σ H Q=>vs=[]/\Q σ H
def gCons (t:TG) (u:TGs):TGs:=fun vs σ H Q=>∃ v r,vs=v :: r/\t v σ H fun σ' H'=>u r σ' H' Q
theorem pB:PGs X [] gNil:=by
 intro pins s σ H vs us Q I r h;obtain ⟨e,h⟩:=h;subst e;cases r;exact assignInOrder_nil ⟨σ,H,I,h⟩
theorem pC {e:Expr}{t:TG}{u:TGs} (h1:PG X e t) (h2:PGs X es u)
  (hs:(assignEach (e :: es) X.env).map (·.2)=assign e X.env :: (assignEach es X.env).map (·.2):=by rfl):PGs X (e :: es) (gCons t u):=by
 intro pins s σ H vs us Q I r h;obtain ⟨v,vr,e1,h⟩:=h;subst e1;cases r with
 | cons r rr =>
  rw [hs];refine assignInOrder_cons (thn (h1 pins s σ H _ _ _ I r h) fun _ s1 ⟨σ1,H1,I1,q1⟩=>?_)
  exact h2 pins s1 σ1 H1 _ _ Q I1 rr q1
def gTup (K:PySem.W.Frag) (n:Nat) (t:TGs):TG:=fun v σ H Q=>∃ a xs,v=.ref a/\SqT K H a xs/\xs.length=n/\t xs σ H Q
theorem jK{k:Nat}{t:TGs}{n:Nat} (hc:X.calm=true) (h:PGs X es t)
  (hn:(assignEach es X.env).length=n:=by rfl) (hst:(assignEach es X.env).findIdx? (·.1)=none:=by rfl):PG X (.Tuple es k pos) (gTup X.K n t):=by
 intro pins s σ H v u Q I r hw;obtain ⟨a,xs,e1,hq,hl,hw⟩:=hw;subst e1;cases r;obtain ⟨its,rv,ht,hz⟩:=I.tuple hq;refine assign_Tuple_tuple (I.ok.hd hc) ht (by simp [hn,<- hl,rv.length]) hst fun h' hx=>?_
 have I1:Inv X pins σ H { s with heap:=h' }:=I.kept (t':=s.toks) fun b o e=>hx b o (y9 (yT e)) e
 exact h pins _ σ H xs _ Q I1 (by simpa using rv) hw
def gSub (to ti:TE) (t:TSet):TG:=fun v σ H Q=>to σ H fun o H1=>ti σ H1 fun i H2=>t o i v H2 fun H3=>Q σ H3
theorem pD {o i:Expr}{to ti:TE}{t:TSet} (ho:PE X o to) (hi:PE X i ti) (hs:PSet X t)
  (ha:∀ v,assign (.Subscript o i pos) X.env v=(do
   let ov <- holding [v] (eval o X.env)
   let iv <- holding [v,ov] (eval i X.env)
   standAt pos
   holding [v,ov,iv] (setItem ov iv v)
   release [v,ov,iv] []):=by intro _; rfl):PG X (.Subscript o i pos) (gSub to ti t):=by
 intro pins s σ H v u Q I r h;rw [ha];refine yL (zY (thn (ho pins s σ H _ I h) fun ov s1 ⟨x,H1,I1,r1,q1⟩=>?_))
 refine yL (zY (thn (hi pins s1 σ H1 _ I1 q1) fun iv s2 ⟨y,H2,I2,r2,q2⟩=>?_))
 refine yL (wpAny_standAt (yL (zY (thn (hs pins s2 σ H2 x y v ov iv u _ I2 r1 r2 r q2) fun _ s3 ⟨H3,I3,q3⟩=>?_))))
 exact wpAny_release ⟨σ,H3,I3,q3⟩
def tAsg (te:TE) (g:TG):TS:=fun D σ H=>te σ H fun x H1=>g x σ H1 D.nx
theorem pE {e:Expr} (he:PE X e te) (hg:PG X tg g) (hs:swapsWithSole [tg] e pos.line X.env=pure false:=by rfl) (hw:swappedStores [tg] e X.env=pure none:=by rfl)
  (h1:(assignEach [tg] X.env).map (·.2)=[assign tg X.env]:=by rfl):PS X (.Assign [tg] e pos) (tAsg te g):=by
 intro pins s σ H D I h;refine wpAny_Assign_stores (thn (he pins s σ H _ I h) fun v s1 ⟨x,H1,I1,r1,q1⟩=>?_) hs hw
 rw [h1];exact thn (hg pins s1 σ H1 x v _ I1 r1 q1) fun _ s2 q=>q
theorem pF{x:Str}{e:Expr}{pos':Pos} (hN:X.N.Nodup) (hi:X.N[i]?=some x) (hx:Loc X.env.scope x) (he:PE X e te) (hs:swapsWith e (some (.Name x pos')) pos.line X.env=pure false:=by rfl) (hf:X.fn x=true\/X.env.scope.names.lookup x=some .local:=by first | exact .inl rfl | exact .inr rfl | assumption) :
  PS X (.Assign [.Name x pos'] e pos) (tAsg te (gName i)):=by
 intro pins s σ H D I h;refine wpAny_Assign_Name (thn (he pins s σ H _ I h) fun v s1 ⟨y,H1,I1,r1,q1⟩=>?_) hs
 exact jH I1 hN hi hx r1 (fun s2 I2=>⟨_,H1,I2,q1⟩) hf
def tWhile (c:TT) (tb:TS):TS:=fun D σ H=>∃ W:Nat->St->Hp->Prop,(∃ m,W m σ H)/\∀ m σ H,W m σ H ->
 c σ H fun b H1=>if b=true then ∃ N:St->Hp->Prop,(∀ σ' H',N σ' H'->∃ m',m' < m/\W m' σ' H')/\tb { D with nx:=N,ct:=N,bk:=D.nx } σ H1 else D.nx σ H1
theorem pG {c:Expr}{tc:TT}{tb:TS} (hp:PassesOwn (model X.prog X.w) X.A X.env X.xe) (hc:PT X c tc) (hb:PSs X body tb):PS X (.While c body [] pos) (tWhile tc tb):=by
 intro pins s σ H D I h;obtain ⟨W,⟨m0,w0⟩,turn⟩:=h;refine wpAny_While (codeAny_whileLoop (fun n s'=>∃ σ' H',Inv X pins σ' H' s'/\W n σ' H') ?_ m0 ⟨σ,H,I,w0⟩)
 rintro n s1 ⟨σ1,H1,I1,w1⟩;refine Ax hp (thn (hc pins s1 σ1 H1 _ I1 (turn n σ1 H1 w1)) fun b s2 ⟨H2,I2,q2⟩=>?_)
 cases b with
 | true =>
  obtain ⟨N,hN,q2⟩:=q2;rw [yN rfl];refine Ax hp (thn (hb pins s2 σ1 H2 _ I2 q2) fun f s3 q3=>?_)
  cases f with
  | next =>
   obtain ⟨σ3,H3,I3,n3⟩:=q3;obtain ⟨m',hm,w3⟩:=hN σ3 H3 n3;exact ⟨m',hm,σ3,H3,I3,w3⟩
  | cont =>
   obtain ⟨σ3,H3,I3,n3⟩:=q3;obtain ⟨m',hm,w3⟩:=hN σ3 H3 n3;exact ⟨m',hm,σ3,H3,I3,w3⟩
  | brk=>exact q3
  | ret v=>exact q3
 | false =>
  rw [yM zj];exact wpAny_execs_nil ⟨σ1,H2,I2,q2⟩
end
structure It where
 go:Nat->Hp->Prop
 yld:Nat->Hp->V->Hp->Prop
 stop:Nat->Hp->Prop
def FpOk (X:Cx) (pins:List (Addr × Obj)) (H:Hp) (b:Addr):Prop :=
 H b=none/\b≠X.env.locals/\b ∉ X.fs/\(b∈X.ex\/X.s₀.heap.objs.size<=b)/\(∀ x c,X.env.cells.lookup x=some c->c≠b)/\∀ p∈X.pn++pins,p.1≠b
theorem Inv.fpOk{σ:St}{H H':Hp}{s:Shared}{b:Addr} (I:Inv X pins σ H s) (hb:s.heap.objs.size<=b) (hn:H' b=none):FpOk X pins H' b:=by
 refine ⟨hn,zB (zr I.lt hb),I.nofs hb,.inr (zy I.sz hb),fun x c e z=>?_,fun p hp z=>?_⟩
 ·obtain ⟨v,q⟩:=I.cell x c e
  exact absurd (zr q.lt (by rw [z]; exact hb)) (zN _)
 ·exact absurd (zr (yT (I.pin p hp).1) (by rw [z]; exact hb)) (zN _)
structure Turn (P:Program) (w:World) (K:PySem.W.Frag) (tg:Expr) (J:It) (fp:List Addr) (it:Addr) (tn:Nat->Heap->Prop):Prop where
 mem:it∈fp
 obj:∀ i h,tn i h->∀ b∈fp,∃ o,h.get? b=some o/\∀ v,o.data≠.cell v
 keep:∀ i h h',tn i h->(∀ b∈fp,∀ o,h.get? b=some o->h'.get? b=some o)->tn i h'
 item:∀ (X:Cx),X.prog=P->X.w=w->X.K=K->X.calm=true->∀ (i:Nat) (pins:List (Addr × Obj)) (s:Shared) (σ:St) (H:Hp) (E:Value->Shared->Prop),Inv X pins σ H s->(∀ b∈fp,FpOk X pins H b)->tn i s.heap->J.go i H ->
  wpAny (model P w) X.A (pyNext (.ref it)) (fun r s1=>∃ u,r=some u /\
   wpAny (model P w) X.A (letOwnedTupleGo tg (.ref it) u) (fun _ s2=>∃ x H',Inv X pins σ H' s2/\RelV x u/\J.yld i H x H'/\tn (i + 1) s2.heap/\∀ b∈fp,H' b=none) E s1) E s
 done:∀ (X:Cx),X.prog=P->X.w=w->X.K=K->X.calm=true->∀ (i:Nat) (pins:List (Addr × Obj)) (s:Shared) (σ:St) (H:Hp) (E:Value->Shared->Prop),Inv X pins σ H s->(∀ b∈fp,FpOk X pins H b)->tn i s.heap->J.stop i H ->
  wpAny (model P w) X.A (pyNext (.ref it)) (fun r s1=>r=none/\Inv X pins σ H s1) E s
 self:∀ (A:Around) (i:Nat) (s:Shared) (Q:Value->Shared->Prop) (E:Value->Shared->Prop),tn i s.heap->Q (.ref it) s->wpAny (model P w) A (pyIter (.ref it)) Q E s
abbrev TI:=St->Hp->(It->Hp->Prop)->Prop
def PIE (X:Cx) (pins:List (Addr × Obj)) (σ:St) (tg:Expr) (R:It->Hp->Prop) (itv:Value) (s2:Shared):Prop :=
 ∃ (it:Addr) (fp:List Addr) (tn:Nat->Heap->Prop) (J:It) (H':Hp),itv=.ref it/\Inv X pins σ H' s2/\Turn X.prog X.w X.K tg J fp it tn/\tn 0 s2.heap/\(∀ b∈fp,FpOk X pins H' b)/\R J H'
def PI (X:Cx) (tg iter:Expr) (wi:TI):Prop :=
 ∀ (pins:List (Addr × Obj)) (s:Shared) (σ:St) (H:Hp) (R:It->Hp->Prop),Inv X pins σ H s->wi σ H R ->
  wpAny (model X.prog X.w) X.A (eval iter X.env) (fun v s1=>wpAny (model X.prog X.w) X.A (pyIter v) (PIE X pins σ tg R) X.xe s1) X.xe s
theorem hX {M:Model}{A:Around}{E:Value->Shared->Prop}{s:Shared}{tg:Expr}{u:Value}{o:Obj}{n:String}{vs:Array Value}{Q:Unit->Shared->Prop} (ho:s.heap.get? it=some o) (hc:o.cls=.type n) (hd:o.data=.fields vs)
  (hn:["enumerate", "zip", "dict_itemiterator", "dict_reverseitemiterator", "odict_iterator", "itertools.zip_longest", "itertools.pairwise"].contains n=false) (hQ:Q () s):wpAny M A (letOwnedTupleGo tg (.ref it) u) Q E s:=by
 unfold letOwnedTupleGo;cases tg <;> first
  | exact yQ hQ
  | (cases u <;> first
    | exact yQ hQ
    | (refine yL (wpAny_load ho ?_)
       rw [hc,hd];show wpAny M A (if (["enumerate", "zip", "dict_itemiterator", "dict_reverseitemiterator", "odict_iterator", "itertools.zip_longest", "itertools.pairwise"].contains n && vs[0]? == some (rawInt _))=true then _ else _) Q E s;rw [yM (by intro h; rw [hn,AL] at h; cases h)]
       exact yQ hQ))
def Itl (K:PySem.W.Frag) (a:Addr):It :=
 ⟨fun i H=>∃ xs x,SqL K H a xs/\xs[i]?=some x,fun i H x H'=>H'=H/\∀ xs,SqL K H a xs->xs[i]?=some x,fun i H=>∃ xs,SqL K H a xs/\xs.length<=i⟩
def Itt (K:PySem.W.Frag) (a:Addr):It :=
 ⟨fun i H=>∃ xs x,SqT K H a xs/\xs[i]?=some x,fun i H x H'=>H'=H/\∀ xs,SqT K H a xs->xs[i]?=some x,fun i H=>∃ xs,SqT K H a xs/\xs.length<=i⟩
def Itr (lo:Int) (n:Nat):It:=⟨fun i _=>i < n,fun i H x H'=>H'=H/\x=.int (lo + i),fun i _=>n<=i⟩
theorem pI (a it:Addr):Turn P w K tg (Itl K a) [it] it (fun i h=>h.IsListIter it a i) where
 mem:=by simp
 obj:=fun i h st b hb=>by
  have e:b=it:=by simpa using hb
  subst e;obtain ⟨o,e,c,d⟩:=st;exact ⟨o,e,fun v z=>by rw [d] at z; cases z⟩
 keep:=fun i h h' st k=>st.at fun o e=>k it (by simp) o e
 item:=by
  intro X hP hw hK hc i pins s σ H E I hf st hg;subst hP hw hK;obtain ⟨xs,x,hq,hx⟩:=hg;obtain ⟨its,rv,p,hz⟩:=I.list hq;obtain ⟨u,hu,ru⟩:=rv.get hx;obtain ⟨f0,f1,f2,f3,f4,f5⟩:=hf it (by simp)
  refine wpAny_pyNext_list_item st p.isList (x:=u) (by simpa using hu) fun h' st' sb=>?_
  have I1:Inv X pins σ H { s with heap:=h' }:=I.turned (t':=s.toks) (fun b o hb e=>(sb.2 b hb).trans e) f0 f1 f3 f4 f5
  obtain ⟨o,e,c,d⟩:=id st';exact ⟨u,rfl,hX (s:={ s with heap:=h' }) e c d (by decide) ⟨x,H,I1,ru,⟨rfl,fun ys hy=>by rw [I.list_inj hy hq]; exact hx⟩,st',fun b hb=>(hf b hb).1⟩⟩
 done:=by
  intro X hP hw hK hc i pins s σ H E I hf st hg;subst hP hw hK;obtain ⟨xs,hq,hx⟩:=hg;obtain ⟨its,rv,p,hz⟩:=I.list hq;obtain ⟨f0,f1,f2,f3,f4,f5⟩:=hf it (by simp)
  have hl:=rv.length;exact wpAny_pyNext_list_end (I.ok.hd hc) st p.isList (by simp; omega) fun h' eb=>⟨rfl,I.turned (t':=s.toks) (fun b o hb e=>eb b o hb e) f0 f1 f3 f4 f5⟩
 self:=fun _ _ _ _ _ st h=>wpAny_pyIter_listiter st h
theorem pJ (a it:Addr):Turn P w K tg (Itt K a) [it] it (fun i h=>h.IsTupleIter it a i) where
 mem:=by simp
 obj:=fun i h st b hb=>by
  have e:b=it:=by simpa using hb
  subst e;obtain ⟨o,e,c,d⟩:=st;exact ⟨o,e,fun v z=>by rw [d] at z; cases z⟩
 keep:=fun i h h' st k=>st.at fun o e=>k it (by simp) o e
 item:=by
  intro X hP hw hK hc i pins s σ H E I hf st hg;subst hP hw hK;obtain ⟨xs,x,hq,hx⟩:=hg;obtain ⟨its,rv,p,hz⟩:=I.tuple hq;obtain ⟨u,hu,ru⟩:=rv.get hx;obtain ⟨f0,f1,f2,f3,f4,f5⟩:=hf it (by simp)
  refine wpAny_pyNext_tuple_item st (show s.heap.IsTuple a its.toArray from p) (x:=u) (by simpa using hu) fun h' st' sb=>?_
  have I1:Inv X pins σ H { s with heap:=h' }:=I.turned (t':=s.toks) (fun b o hb e=>(sb.2 b hb).trans e) f0 f1 f3 f4 f5
  obtain ⟨o,e,c,d⟩:=id st';exact ⟨u,rfl,hX (s:={ s with heap:=h' }) e c d (by decide) ⟨x,H,I1,ru,⟨rfl,fun ys hy=>by rw [I.tuple_inj hy hq]; exact hx⟩,st',fun b hb=>(hf b hb).1⟩⟩
 done:=by
  intro X hP hw hK hc i pins s σ H E I hf st hg;subst hP hw hK;obtain ⟨xs,hq,hx⟩:=hg;obtain ⟨its,rv,p,hz⟩:=I.tuple hq;obtain ⟨f0,f1,f2,f3,f4,f5⟩:=hf it (by simp)
  have hl:=rv.length;exact wpAny_pyNext_tuple_end (I.ok.hd hc) st (show s.heap.IsTuple a its.toArray from p) (by simp; omega) fun h' eb=>⟨rfl,I.turned (t':=s.toks) (fun b o hb e=>eb b o hb e) f0 f1 f3 f4 f5⟩
 self:=fun _ _ _ _ _ st h=>wpAny_pyIter_tupleiter st h
theorem pK (it:Addr) (lo:Int) (n:Nat):Turn P w K tg (Itr lo n) [it] it (fun i h=>IsRangeIter h it (lo + (i:Nat) * 1) ((n:Int) - (i:Nat)) 1) where
 mem:=by simp
 obj:=fun i h st b hb=>by
  have e:b=it:=by simpa using hb
  subst e;exact ⟨_,st,fun v z=>by
   have z':Data.fields _=Data.cell v:=z;cases z'⟩
 keep:=fun i h h' st k=>k it (by simp) _ st
 item:=by
  intro X hP hw hK hc i pins s σ H E I hf st hg;subst hP hw hK;obtain ⟨f0,f1,f2,f3,f4,f5⟩:=hf it (by simp)
  have W:=Walks.range (prog:=X.prog) (w:=X.w) (I.ok.hd hc) it lo 1 n;refine W.item i s _ _ hg st fun v h' tk hv st' kk=>?_
  obtain ⟨t,rfl⟩:=hv;have I1:Inv X pins σ H { s with heap:=h',toks:=tk }:=I.turned (fun b o hb e=>kk b o (by simpa using hb) e) f0 f1 f3 f4 f5
  refine ⟨_,rfl,hX (s:={ s with heap:=h',toks:=tk }) (n := "range_iterator") st' rfl rfl (by decide) ⟨.int (lo + i),H,I1,⟨t,?_⟩,⟨rfl,rfl⟩,st',fun b hb=>(hf b hb).1⟩⟩
  rw [Int.mul_one]
 done:=by
  intro X hP hw hK hc i pins s σ H E I hf st hg;subst hP hw hK;obtain ⟨f0,f1,f2,f3,f4,f5⟩:=hf it (by simp)
  exact wpAny_pyNext_range_end (I.ok.hd hc) st (by have:n<=i:=hg; omega) fun h' eb=>⟨rfl,I.turned (t':=s.toks) (fun b o hb e=>eb b o hb e) f0 f1 f3 f4 f5⟩
 self:=fun _ _ _ _ _ st h=>wpAny_pyIter_rangeiter st h
section
variable {X:Cx}{tg:Expr}
def iList (K:PySem.W.Frag) (tl:TE):TI:=fun σ H R=>tl σ H fun x H1=>∃ a,x=.ref a/\(∃ xs,SqL K H1 a xs)/\R (Itl K a) H1
def iTup (K:PySem.W.Frag) (tl:TE):TI:=fun σ H R=>tl σ H fun x H1=>∃ a,x=.ref a/\(∃ xs,SqT K H1 a xs)/\R (Itt K a) H1
theorem pL (hl:PE X l tl):PI X tg l (iList X.K tl):=by
 intro pins s σ H R I h;refine thn (hl pins s σ H _ I h) fun v s1 ⟨x,H1,I1,r1,q1⟩=>?_
 obtain ⟨a,e,⟨xs,hq⟩,q⟩:=q1;subst e;cases r1;obtain ⟨its,rv,p,hz⟩:=I1.list hq;refine Aj p.isList ?_;refine ⟨s1.heap.objs.size,[s1.heap.objs.size],_,_,H1,rfl,I1.kept (t':=s1.toks) fun b o e=>yW _ e,pI a _,⟨_,zq _ rfl,rfl,rfl⟩,fun b hb=>?_,q⟩
 have e:b=s1.heap.objs.size:=by simpa using hb
 subst e;exact I1.fpOk (yP _) (I1.hok.fresh (yP _))
theorem pM (hl:PE X l tl):PI X tg l (iTup X.K tl):=by
 intro pins s σ H R I h;refine thn (hl pins s σ H _ I h) fun v s1 ⟨x,H1,I1,r1,q1⟩=>?_
 obtain ⟨a,e,⟨xs,hq⟩,q⟩:=q1;subst e;cases r1;obtain ⟨its,rv,p,hz⟩:=I1.tuple hq;refine Ao (show s1.heap.IsTuple a its.toArray from p) ?_;refine ⟨s1.heap.objs.size,[s1.heap.objs.size],_,_,H1,rfl,I1.kept (t':=s1.toks) fun b o e=>yW _ e,pJ a _,⟨_,zq _ rfl,rfl,rfl⟩,fun b hb=>?_,q⟩
 have e:b=s1.heap.objs.size:=by simpa using hb
 subst e;exact I1.fpOk (yP _) (I1.hok.fresh (yP _))
theorem jL{σ:St}{R:It->Hp->Prop}{E:Value->Shared->Prop}{hi:Int}{t u v:Tok}{tk:Nat} (I:Inv X pins σ H s) (h1:-(2 ^ 62)<=lo) (h2:lo < 2 ^ 62) (h3:-(2 ^ 62)<=hi) (h4:hi < 2 ^ 62)
  (q:R (Itr lo (hi - lo).toNat) H):wpAny (model X.prog X.w) X.A (pyIter (.ref s.heap.objs.size)) (PIE X pins σ tg R) E { s with heap:=s.heap.push { cls:=.type "range",data:=.fields #[.int lo t,.int hi u,.int 1 v] },toks:=tk }:=by
 refine wpAny_pyIter_range (IsRange.new ..) (small_one h1 h2 h3 h4) ?_;have I1:Inv X pins σ H { s with heap:=s.heap.push { cls:=.type "range",data:=.fields #[.int lo t,.int hi u,.int 1 v] },toks:=tk }:=I.kept fun b o e=>yW _ e
 refine ⟨(s.heap.push { cls:=.type "range",data:=.fields #[.int lo t,.int hi u,.int 1 v] }).objs.size,[(s.heap.push { cls:=.type "range",data:=.fields #[.int lo t,.int hi u,.int 1 v] }).objs.size],_,_,H,rfl,
  I1.kept (t':=tk) fun b o e=>yW _ e,pK _ lo (hi - lo).toNat,?_,fun b hb=>?_,q⟩
 ·have e1:lo + ((0:Nat):Int) * 1=lo:=by simp
  have e2:(((hi - lo).toNat:Nat):Int) - ((0:Nat):Int)=Builtin.Range.rangeSize lo hi 1:=by rw [rangeSize_one]; split <;> omega
  show IsRangeIter _ _ (lo + ((0:Nat):Int) * 1) ((((hi - lo).toNat:Nat):Int) - ((0:Nat):Int)) 1;rw [e1,e2];exact zq _ rfl
 ·have e:b=(s.heap.push { cls:=.type "range",data:=.fields #[.int lo t,.int hi u,.int 1 v] }).objs.size:=by simpa using hb
  subst e;exact I1.fpOk (yP _) (I1.hok.fresh (yP _))
def iRng1 (ta:TA):TI:=fun σ H R=>ta σ H fun vs H1=>∃ j:Int,vs=[.int j]/\-(2 ^ 62)<=j/\j < 2 ^ 62/\R (Itr 0 j.toNat) H1
def iRng2 (ta:TA):TI:=fun σ H R=>ta σ H fun vs H1=>∃ i j:Int,vs=[.int i,.int j]/\(-(2 ^ 62)<=i/\i < 2 ^ 62/\-(2 ^ 62)<=j/\j < 2 ^ 62)/\R (Itr i (j - i).toNat) H1
theorem pN {a:Expr}{ta:TA} (hg:Gl X "range") (hm:X.mg "range" = none) (ha:PA X [a] ta) (hs:starEach [a] X.env=[(false,eval a X.env)]:=by rfl):PI X tg (.Call (.Name "range" p) [a] [] pos) (iRng1 ta):=by
 intro pins s σ H R I h;refine Call_ (dh I hg hm boot_range (Ay (thn (ha pos pins s σ H _ I h) fun us s1 ⟨vs,H1,I1,r1,q1⟩=>?_) hs rfl))
 obtain ⟨j,e,q1,q2,q⟩:=q1;subst e;cases r1 with
 | cons r rr =>
  cases rr;obtain ⟨t,rfl⟩:=r;exact call_range_1 (jL I1 (by omega) (by omega) q1 q2 (by simpa using q))
theorem pO {a b:Expr}{ta:TA}{p pos:Pos} (hg:Gl X "range") (hm:X.mg "range" = none) (ha:PA X [a,b] ta) (hs:starEach [a,b] X.env=[(false,eval a X.env),(false,eval b X.env)]:=by rfl) (hs2:starEach [b] X.env=[(false,eval b X.env)]:=by rfl) :
  PI X tg (.Call (.Name "range" p) [a,b] [] pos) (iRng2 ta):=by
 intro pins s σ H R I h;refine Call_ (dh I hg hm boot_range (Ay (thn (ha pos pins s σ H _ I h) fun us s1 ⟨vs,H1,I1,r1,q1⟩=>?_) (by rw [hs,hs2]) (by rw [hs2]; rfl)))
 obtain ⟨i,j,e,⟨q1,q2,q3,q4⟩,q⟩:=q1;subst e;cases r1 with
 | cons r rr =>
  cases rr with
  | cons r' rr =>
   cases rr;obtain ⟨t,rfl⟩:=r;obtain ⟨t',rfl⟩:=r';exact call_range_2 (jL I1 q1 q2 q3 q4 q)
def tFor (wi:TI) (g:TG) (tb:TS):TS:=fun D σ H=>wi σ H fun J H1=>∃ W:Nat->Nat->St->Hp->Prop,(∃ m,W 0 m σ H1)/\∀ i m σ H,W i m σ H ->
 (J.stop i H/\D.nx σ H)\/(J.go i H/\∃ N:St->Hp->Prop,(∀ σ' H',N σ' H'->∃ m',m' < m/\W (i + 1) m' σ' H')/\∀ x H',J.yld i H x H'->g x σ H' fun σ2 H2=>tb { D with nx:=N,ct:=N,bk:=D.nx } σ2 H2)
def pinsAt (fp:List Addr) (h:Heap):List (Addr × Obj):=fp.filterMap fun b=>(h.get? b).map fun o=>(b,o)
theorem fQ{b:Addr}{o:Obj} (hb:b∈fp) (e:h.get? b=some o):(b,o)∈pinsAt fp h:=List.mem_filterMap.mpr ⟨b,hb,by rw [e]; rfl⟩
theorem jM{p:Addr × Obj} (hp:p∈pinsAt fp h):p.1∈fp/\h.get? p.1=some p.2:=by
 obtain ⟨b,hb,e⟩:=List.mem_filterMap.mp hp;cases q:h.get? b with
 | none=>rw [q] at e; cases e
 | some o =>
  rw [q] at e;have e':(b,o)=p:=zp e;subst e';exact ⟨hb,q⟩
theorem Inv.pinned{σ:St} (I:Inv X pins σ H s) (hf:∀ b∈fp,FpOk X pins H b) (ho:∀ b∈fp,∃ o,s.heap.get? b=some o/\∀ v,o.data≠.cell v):Inv X (pins++pinsAt fp s.heap) σ H s :=
 I.pins_of fun p hp=>(zR.mp hp).elim (fun z=>I.pin p (zJ _ z)) fun z=>by
  obtain ⟨hb,e⟩:=jM z;obtain ⟨f0,f1,f2,_⟩:=hf p.1 hb;obtain ⟨o,e',d⟩:=ho p.1 hb;rw [e] at e'; cases e';exact ⟨e,f0,f1,f2,d⟩
theorem Inv.unpinned {pl:List (Addr × Obj)}{σ:St} (I:Inv X (pins++pl) σ H s):Inv X pins σ H s:=I.pins_of fun p hp=>I.pin p (zJ _ (Ai _ hp))
theorem pP {iter:Expr}{wi:TI}{tb:TS}{pos:Pos} (hp:PassesOwn (model X.prog X.w) X.A X.env X.xe) (hc:X.calm=true) (hi:PI X tg iter wi) (hg:PG X tg g) (hb:PSs X body tb)
  (hs:∀ x,foldedSetIterable iter X.env x=pure x:=by intro _; rfl):PS X (.For tg iter body [] pos) (tFor wi g tb):=by
 intro pins s σ H D I h;refine wpAny_For (thn (hi pins s σ H _ I h) fun v s1 h1=>thn h1 fun itv s2 h2=>?_) hs
 obtain ⟨it,fp,tn,J,H2,e,I2,T,st2,f2,W,⟨m0,w0⟩,turn⟩:=h2;subst e;have stat:∀ {H':Hp},(∀ b∈fp,H' b=none)->∀ b∈fp,FpOk X pins H' b:=fun hn b hb=>⟨hn b hb,(f2 b hb).2⟩
 refine codeAny_forLoop_any (fun n s'=>∃ i σ' H',Inv X pins σ' H' s'/\tn i s'.heap/\(∀ b∈fp,H' b=none)/\W i n σ' H') ?_ m0 ⟨0,σ,H2,I2,st2,fun b hb=>(f2 b hb).1,w0⟩
 rintro n s3 ⟨i,σ3,H3,I3,st3,fr3,w3⟩;rcases turn i n σ3 H3 w3 with ⟨stop,qn⟩ | ⟨go,N,hN,step⟩
 ·refine Ax hp (thn (T.done X rfl rfl rfl hc i pins s3 σ3 H3 X.xe I3 (stat fr3) st3 stop) fun r s4 ⟨hr,I4⟩=>?_)
  subst hr;exact wpAny_execs_nil ⟨σ3,H3,I4,qn⟩
 ·refine Ax hp (thn (T.item X rfl rfl rfl hc i pins s3 σ3 H3 X.xe I3 (stat fr3) st3 go) fun r s4 ⟨u,hr,h4⟩=>?_)
  subst hr;refine Ax hp (thn h4 fun _ s5 ⟨x,H5,I5,r5,y5,st5,fr5⟩=>?_)
  have I5':=I5.pinned (stat fr5) (T.obj _ _ st5);refine Ax hp (thn (hg _ s5 σ3 H5 x u _ I5' r5 (step x H5 y5)) fun _ s6 ⟨σ6,H6,I6,q6⟩=>?_)
  refine Ax hp (thn (hb _ s6 σ6 H6 _ I6 q6) fun f s7 q7=>?_)
  have again:∀ {σ7:St}{H7:Hp},Inv X (pins++pinsAt fp s5.heap) σ7 H7 s7->N σ7 H7->∃ m,m < n/\∃ i σ' H',Inv X pins σ' H' s7/\tn i s7.heap/\(∀ b∈fp,H' b=none)/\W i m σ' H':=fun {σ7 H7} I7 n7=>by
   obtain ⟨m',hm,w7⟩:=hN σ7 H7 n7;refine ⟨m',hm,i + 1,σ7,H7,I7.unpinned,T.keep _ _ _ st5 fun b hb o e=>(I7.pin (b,o) (zJ _ (zJ _ (fQ hb e)))).1,fun b hb=>?_,w7⟩
   obtain ⟨o,e,d⟩:=T.obj _ _ st5 b hb;exact (I7.pin (b,o) (zJ _ (zJ _ (fQ hb e)))).2.1
  cases f with
  | next=>obtain ⟨σ7,H7,I7,n7⟩:=q7; exact again I7 n7
  | cont=>obtain ⟨σ7,H7,I7,n7⟩:=q7; exact again I7 n7
  | brk=>obtain ⟨σ7,H7,I7,q7⟩:=q7; exact ⟨σ7,H7,I7.unpinned,q7⟩
  | ret v=>obtain ⟨x7,σ7,H7,I7,r7,q7⟩:=q7; exact ⟨x7,σ7,H7,I7.unpinned,r7,q7⟩
end
theorem pQ{a:Addr}{g:TG}{tb:TS}{D:Ends}{σ:St} (Pv:Nat->St->Hp->Prop) (h0:Pv 0 σ H) (hl:∀ i σ H,i<=xs.length->Pv i σ H->SqL K H a xs)
  (hs:∀ i x σ H,xs[i]?=some x->Pv i σ H->g x σ H fun σ2 H2=>tb { D with nx:=Pv (i + 1),ct:=Pv (i + 1),bk:=D.nx } σ2 H2) (hd:∀ σ H,Pv xs.length σ H->D.nx σ H) :
  ∃ W:Nat->Nat->St->Hp->Prop,(∃ m,W 0 m σ H)/\∀ i m σ H,W i m σ H ->
   ((Itl K a).stop i H/\D.nx σ H)\/((Itl K a).go i H/\∃ N:St->Hp->Prop,(∀ σ' H',N σ' H'->∃ m',m' < m/\W (i + 1) m' σ' H')/\∀ x H',(Itl K a).yld i H x H'->g x σ H' fun σ2 H2=>tb { D with nx:=N,ct:=N,bk:=D.nx } σ2 H2):=by
 refine ⟨fun i m σ H=>m=xs.length - i/\i<=xs.length/\Pv i σ H,⟨xs.length,by simp,zZ _,h0⟩,?_⟩
 rintro i m σ H ⟨rfl,hi,p⟩;have q:=hl i σ H hi p
 by_cases hlt:i < xs.length
 ·refine .inr ⟨⟨xs,xs[i],q,by simp [hlt]⟩,Pv (i + 1),fun σ' H' p'=>⟨xs.length - (i + 1),by omega,rfl,hlt,p'⟩,fun x H' y=>?_⟩
  obtain ⟨e,y⟩:=y;subst e;exact hs i x σ _ (y xs q) p
 ·have e:i=xs.length:=by omega
  subst e;exact .inl ⟨⟨xs,q,yP _⟩,hd σ H p⟩
theorem pR{a:Addr}{g:TG}{tb:TS}{D:Ends}{σ:St} (Pv:Nat->St->Hp->Prop) (h0:Pv 0 σ H) (hl:∀ i σ H,i<=xs.length->Pv i σ H->SqT K H a xs)
  (hs:∀ i x σ H,xs[i]?=some x->Pv i σ H->g x σ H fun σ2 H2=>tb { D with nx:=Pv (i + 1),ct:=Pv (i + 1),bk:=D.nx } σ2 H2) (hd:∀ σ H,Pv xs.length σ H->D.nx σ H) :
  ∃ W:Nat->Nat->St->Hp->Prop,(∃ m,W 0 m σ H)/\∀ i m σ H,W i m σ H ->
   ((Itt K a).stop i H/\D.nx σ H)\/((Itt K a).go i H/\∃ N:St->Hp->Prop,(∀ σ' H',N σ' H'->∃ m',m' < m/\W (i + 1) m' σ' H')/\∀ x H',(Itt K a).yld i H x H'->g x σ H' fun σ2 H2=>tb { D with nx:=N,ct:=N,bk:=D.nx } σ2 H2):=by
 refine ⟨fun i m σ H=>m=xs.length - i/\i<=xs.length/\Pv i σ H,⟨xs.length,by simp,zZ _,h0⟩,?_⟩
 rintro i m σ H ⟨rfl,hi,p⟩;have q:=hl i σ H hi p
 by_cases hlt:i < xs.length
 ·refine .inr ⟨⟨xs,xs[i],q,by simp [hlt]⟩,Pv (i + 1),fun σ' H' p'=>⟨xs.length - (i + 1),by omega,rfl,hlt,p'⟩,fun x H' y=>?_⟩
  obtain ⟨e,y⟩:=y;subst e;exact hs i x σ _ (y xs q) p
 ·have e:i=xs.length:=by omega
  subst e;exact .inl ⟨⟨xs,q,yP _⟩,hd σ H p⟩
theorem pS {lo:Int}{n:Nat}{g:TG}{tb:TS}{D:Ends}{σ:St} (Pv:Nat->St->Hp->Prop) (h0:Pv 0 σ H)
  (hs:∀ i σ H,i < n->Pv i σ H->g (.int (lo + i)) σ H fun σ2 H2=>tb { D with nx:=Pv (i + 1),ct:=Pv (i + 1),bk:=D.nx } σ2 H2) (hd:∀ σ H,Pv n σ H->D.nx σ H) :
  ∃ W:Nat->Nat->St->Hp->Prop,(∃ m,W 0 m σ H)/\∀ i m σ H,W i m σ H ->
   ((Itr lo n).stop i H/\D.nx σ H)\/((Itr lo n).go i H/\∃ N:St->Hp->Prop,(∀ σ' H',N σ' H'->∃ m',m' < m/\W (i + 1) m' σ' H')/\∀ x H',(Itr lo n).yld i H x H'->g x σ H' fun σ2 H2=>tb { D with nx:=N,ct:=N,bk:=D.nx } σ2 H2):=by
 refine ⟨fun i m σ H=>m=n - i/\i<=n/\Pv i σ H,⟨n,by simp,zZ _,h0⟩,?_⟩
 rintro i m σ H ⟨rfl,hi,p⟩
 by_cases hlt:i < n
 ·refine .inr ⟨hlt,Pv (i + 1),fun σ' H' p'=>⟨n - (i + 1),by omega,rfl,hlt,p'⟩,fun x H' y=>?_⟩
  obtain ⟨e,y⟩:=y;subst e y;exact hs i σ _ hlt p
 ·have e:i=n:=by omega
  subst e;exact .inl ⟨yP _,hd σ H p⟩
abbrev R2:=V->V->Hp->VK->Prop
def OpR (X:Cx) (f:Value->Value->Sem Value) (r:R2):Prop :=
 ∀ (pins:List (Addr × Obj)) (s:Shared) (σ:St) (H:Hp) (x y:V) (v u:Value) (Q:VK),Inv X pins σ H s->RelV x v->RelV y u->r x y H Q ->
  wpAny (model X.prog X.w) X.A (f v u) (EP X pins σ Q) X.xe s
def UnR (X:Cx) (f:Value->Sem Value) (r:V->Hp->VK->Prop):Prop :=
 ∀ (pins:List (Addr × Obj)) (s:Shared) (σ:St) (H:Hp) (x:V) (v:Value) (Q:VK),Inv X pins σ H s->RelV x v->r x H Q ->
  wpAny (model X.prog X.w) X.A (f v) (EP X pins σ Q) X.xe s
def CallR (X:Cx) (f:Value) (r:List V->Hp->VK->Prop):Prop :=
 ∀ (pins:List (Addr × Obj)) (s:Shared) (σ:St) (H:Hp) (xs:List V) (us:List Value) (Q:VK),Inv X pins σ H s->Vals xs us->r xs H Q ->
  wpAny (model X.prog X.w) X.A (call f us) (EP X pins σ Q) X.xe s
def tOp (r:R2) (ta tb:TE):TE:=fun σ H Q=>ta σ H fun x H1=>tb σ H1 fun y H2=>r x y H2 Q
def tUn (r:V->Hp->VK->Prop) (ta:TE):TE:=fun σ H Q=>ta σ H fun x H1=>r x H1 Q
structure RI (C:Int->Int->Prop) (g:Int->Int->V) (x y:V) (H:Hp) (Q:VK):Prop where
 ex:∃ i j,x=.int i/\y=.int j/\C i j/\Q (g i j) H
def rI (C:Int->Int->Prop) (g:Int->Int->V):R2:=fun x y H Q=>RI C g x y H Q
structure RI0 (g:Int->Int->V) (x y:V) (H:Hp) (Q:VK):Prop where
 ex:∃ i j,x=.int i/\y=.int j/\Q (g i j) H
def rI0 (g:Int->Int->V):R2:=fun x y H Q=>RI0 g x y H Q
def rU (g:Int->V):V->Hp->VK->Prop:=fun x H Q=>∃ i,x=.int i/\Q (g i) H
section
variable {X:Cx}{a b c:Expr}{ta tb tc:TE}{pos:Pos}
theorem binT (ha:PE X a ta) (hb:PE X b tb){σ:St}{R:V->V->Hp->Prop} (I:Inv X pins σ H s)
  (h:ta σ H fun x H1=>tb σ H1 fun y H2=>R x y H2) {Q:Value->Shared->Prop}{f:Value->Value->Sem Value}
  (hf:∀ v u s2 x y H2,Inv X pins σ H2 s2->RelV x v->RelV y u->R x y H2->wpAny (model X.prog X.w) X.A (f v u) Q X.xe s2) :
  wpAny (model X.prog X.w) X.A (eval a X.env) (fun v s₁=>wpAny (model X.prog X.w) X.A (eval b X.env) (fun u s₂=>wpAny (model X.prog X.w) X.A (f v u) Q X.xe s₂) X.xe s₁) X.xe s:=by
 refine thn (ha pins s σ H _ I h) fun v s1 ⟨x,H1,I1,r1,q1⟩=>?_
 refine thn (hb pins s1 σ H1 _ I1 q1) fun u s2 ⟨y,H2,I2,r2,q2⟩=>?_
 exact hf v u s2 x y H2 I2 r1 r2 q2
theorem pT {op:Operator}{r:R2} (ho:OpR X (binaryOp op) r) (ha:PE X a ta) (hb:PE X b tb):PE X (.BinOp a op b pos) (tOp r ta tb):=by
 intro pins s σ H Q I h;exact wpAny_BinOp (binT ha hb I h fun v u s2 x y H2 I2 rx ry q=>ho pins s2 σ H2 x y v u Q I2 rx ry q)
theorem pU {op:UnaryOp}{r:V->Hp->VK->Prop} (ho:UnR X (unaryOp op) r) (ha:PE X a ta):PE X (.UnaryOp op a pos) (tUn r ta):=by
 intro pins s σ H Q I h;exact UnaryOp_ (thn (ha pins s σ H _ I h) fun v s1 ⟨x,H1,I1,r1,q1⟩=>ho pins s1 σ H1 x v Q I1 r1 q1)
theorem opI {f:Value->Value->Sem Value}{C:Int->Int->Prop}{g:Int->Int->Int}
  (rule:∀ (i j:Int) (t u:Tok) (s:Shared) (Q:Value->Shared->Prop) (E:Value->Shared->Prop),C i j->Q (.int (g i j) s.toks) { s with toks:=s.toks + 1 }->wpAny (model X.prog X.w) X.A (f (.int i t) (.int j u)) Q E s) :
  OpR X f (rI C fun i j=>.int (g i j)):=by
 intro pins s σ H x y v u Q I rx ry h;obtain ⟨i,j,rfl,rfl,hc,q⟩:=h;obtain ⟨t,rfl⟩:=rx;obtain ⟨t',rfl⟩:=ry;exact rule i j t t' s _ _ hc ⟨.int (g i j),H,I.tok _,⟨_,rfl⟩,q⟩
theorem opI0 {f:Value->Value->Sem Value}{g:Int->Int->Int}
  (rule:∀ (i j:Int) (t u:Tok) (s:Shared) (Q:Value->Shared->Prop) (E:Value->Shared->Prop),Q (.int (g i j) s.toks) { s with toks:=s.toks + 1 }->wpAny (model X.prog X.w) X.A (f (.int i t) (.int j u)) Q E s) :
  OpR X f (rI0 fun i j=>.int (g i j)):=by
 intro pins s σ H x y v u Q I rx ry h;obtain ⟨i,j,rfl,rfl,q⟩:=h;obtain ⟨t,rfl⟩:=rx;obtain ⟨t',rfl⟩:=ry;exact rule i j t t' s _ _ ⟨.int (g i j),H,I.tok _,⟨_,rfl⟩,q⟩
theorem opB0 {f:Value->Value->Sem Value}{g:Int->Int->Bool}
  (rule:∀ (i j:Int) (t u:Tok) (s:Shared) (Q:Value->Shared->Prop) (E:Value->Shared->Prop),Q (.bool (g i j)) s->wpAny (model X.prog X.w) X.A (f (.int i t) (.int j u)) Q E s) :
  OpR X f (rI0 fun i j=>.bl (g i j)):=by
 intro pins s σ H x y v u Q I rx ry h;obtain ⟨i,j,rfl,rfl,q⟩:=h;obtain ⟨t,rfl⟩:=rx;obtain ⟨t',rfl⟩:=ry;exact rule i j t t' s _ _ ⟨.bl (g i j),H,I,rfl,q⟩
def CPow (i j:Int):Prop:=0<=j/\j<=1000000/\i.natAbs < 2 ^ 64
def CMul (i j:Int):Prop:=(-(2 ^ 64) < i/\i < 2 ^ 64)\/(-(2 ^ 64) < j/\j < 2 ^ 64)
theorem CMul.ok {i j:Int} (h:CMul i j):IntMulOk i j:=by
 rcases h with ⟨h1,h2⟩ | ⟨h1,h2⟩
 ·exact .of_left (intBits_le_64 h1 h2)
 ·exact .of_right (intBits_le_64 h1 h2)
theorem bN:OpR X (binaryOp .Add) (rI0 fun i j=>.int (i + j)):=opI0 fun _ _ _ _ _ _ _ q=>add_int q
theorem dC:OpR X (binaryOp .Sub) (rI0 fun i j=>.int (i - j)):=opI0 fun _ _ _ _ _ _ _ q=>sub_int q
theorem dO:OpR X (binaryOp .Mult) (rI CMul fun i j=>.int (i * j)):=opI fun _ _ _ _ _ _ _ hc q=>mul_int q hc.ok
theorem aQ:OpR X (binaryOp .Mod) (rI (fun _ j=>0 < j) fun i j=>.int (i % j)):=opI fun i j _ _ _ _ _ hc q=>by
 have h1:(0:Int) < j:=hc;exact mod_int' (by omega) (by rw [Int.fmod_eq_emod_of_nonneg i (by omega)]; exact q)
theorem jN:OpR X (binaryOp .LShift) (rI CPow fun i j=>.int (i * 2 ^ j.toNat)):=opI fun _ _ _ _ _ _ _ hc q=>lshift_int_small hc.1 hc.2.1 hc.2.2 q
theorem hZ:OpR X (binaryOp .BitAnd) (rI0 fun i j=>.int (Builtin.bitAnd i j)):=opI0 fun _ _ _ _ _ _ _ q=>and_int q
theorem jO:OpR X (binaryOp .BitOr) (rI0 fun i j=>.int (Builtin.bitOr i j)):=opI0 fun _ _ _ _ _ _ _ q=>or_int q
theorem ia:OpR X (binaryOp .BitXor) (rI0 fun i j=>.int (Builtin.bitXor i j)):=opI0 fun _ _ _ _ _ _ _ q=>xor_int q
theorem unI {f:Value->Sem Value}{g:Int->Int}
  (rule:∀ (i:Int) (t:Tok) (s:Shared) (Q:Value->Shared->Prop) (E:Value->Shared->Prop),Q (.int (g i) s.toks) { s with toks:=s.toks + 1 }->wpAny (model X.prog X.w) X.A (f (.int i t)) Q E s) :
  UnR X f (rU fun i=>.int (g i)):=by
 intro pins s σ H x v Q I rx h;obtain ⟨i,rfl,q⟩:=h;obtain ⟨t,rfl⟩:=rx;exact rule i t s _ _ ⟨.int (g i),H,I.tok _,⟨_,rfl⟩,q⟩
theorem pV:UnR X (unaryOp .USub) (rU fun i=>.int (-i)):=unI fun _ _ _ _ _ q=>neg_int q
end
def scal:V->V->Bool
 | .non,.non=>true | .non,.int _=>true | .int _,.non=>true | .non,.bl _=>true | .bl _,.non=>true | .non,.str _=>true | .str _,.non=>true
 | .int _,.int _=>true | .bl _,.bl _=>true | .str _,.str _=>true | .byt _,.byt _=>true
 | .int _,.str _=>true | .str _,.int _=>true | .bl _,.str _=>true | .str _,.bl _=>true
 | _,_=>false
def rEq:R2:=fun x y H Q=>scal x y=true/\Q (.bl (decide (x=y))) H
def rNe:R2:=fun x y H Q=>scal x y=true/\Q (.bl (!decide (x=y))) H
theorem jP {i j:Int}:decide (V.int i=V.int j)=(i == j):=by
 rw [A0];simp
theorem jQ {i j:Bool}:decide (V.bl i=V.bl j)=(i == j):=by
 rw [A0];simp
theorem jR {i j:Str}:decide (V.str i=V.str j)=(i == j):=by
 rw [A0];simp
theorem jS {i j:Array UInt8}:decide (V.byt i=V.byt j)=(i.toList == j.toList):=by
 rw [A0];cases i;cases j;simp
section
variable {X:Cx}{a b c:Expr}{ta tb tc:TE}{pos:Pos}
theorem ba{σ:St}{H:Hp}{Q:VK}{k k':Bool} (I:Inv X pins σ H s) (q:Q (.bl k) H) (e:k=k'):EP X pins σ Q (.bool k') s:=by
 subst e;exact ⟨.bl k,H,I,rfl,q⟩
theorem aB:OpR X (compareOp .Eq) rEq:=by
 intro pins s σ H x y v u Q I rx ry h;obtain ⟨hs,q⟩:=h;cases x with
 | non =>
  cases rx;cases y with
  | non=>cases ry; exact PySem.EqNone.eq_none_none (ba I q (by simp))
  | bl j=>cases ry; exact PySem.EqNone.eq_none_bool (ba I q (by simp))
  | int j=>obtain ⟨t',rfl⟩:=ry; exact PySem.EqNone.eq_none_int (ba I q (by simp))
  | str j=>obtain ⟨t',rfl⟩:=ry; exact PySem.EqNone.eq_none_str (ba I q (by simp))
  | _=>exact absurd (show false=true from hs) zj
 | bl i =>
  cases rx;cases y with
  | non=>cases ry; exact PySem.EqNone.eq_bool_none (ba I q (by simp))
  | bl j=>cases ry; exact eq_bool (ba I q jQ)
  | str j=>obtain ⟨t',rfl⟩:=ry; exact PySem.EqMixed.eq_bool_str (ba I q (by simp))
  | _=>exact absurd (show false=true from hs) zj
 | int i =>
  obtain ⟨t,rfl⟩:=rx;cases y with
  | non=>cases ry; exact PySem.EqNone.eq_int_none (ba I q (by simp))
  | int j=>obtain ⟨t',rfl⟩:=ry; exact eq_int (ba I q jP)
  | str j=>obtain ⟨t',rfl⟩:=ry; exact PySem.EqMixed.eq_int_str (ba I q (by simp))
  | _=>exact absurd (show false=true from hs) zj
 | str i =>
  obtain ⟨t,rfl⟩:=rx;cases y with
  | non=>cases ry; exact PySem.EqNone.eq_str_none (ba I q (by simp))
  | bl j=>cases ry; exact PySem.EqMixed.eq_str_bool (ba I q (by simp))
  | int j=>obtain ⟨t',rfl⟩:=ry; exact PySem.EqMixed.eq_str_int (ba I q (by simp))
  | str j=>obtain ⟨t',rfl⟩:=ry; exact eq_str (ba I q jR)
  | _=>exact absurd (show false=true from hs) zj
 | byt i =>
  obtain ⟨t,rfl⟩:=rx;cases y with
  | byt j=>obtain ⟨t',rfl⟩:=ry; exact PySem.W.eq_bytes (ba I q jS)
  | _=>exact absurd (show false=true from hs) zj
 | _=>cases y <;> exact absurd (show false=true from hs) zj
theorem ed:OpR X (compareOp .NotEq) rNe:=by
 intro pins s σ H x y v u Q I rx ry h;obtain ⟨hs,q⟩:=h;cases x with
 | non =>
  cases rx;cases y with
  | non=>cases ry; exact PySem.EqNone.ne_none_none (ba I q (by simp))
  | bl j=>cases ry; exact PySem.EqNone.ne_none_bool (ba I q (by simp))
  | int j=>obtain ⟨t',rfl⟩:=ry; exact PySem.EqNone.ne_none_int (ba I q (by simp))
  | str j=>obtain ⟨t',rfl⟩:=ry; exact PySem.EqNone.ne_none_str (ba I q (by simp))
  | _=>exact absurd (show false=true from hs) zj
 | bl i =>
  cases rx;cases y with
  | non=>cases ry; exact PySem.EqNone.ne_bool_none (ba I q (by simp))
  | bl j=>cases ry; exact ne_bool (ba I q (za not jQ))
  | str j=>obtain ⟨t',rfl⟩:=ry; exact PySem.EqMixed.ne_bool_str (ba I q (by simp))
  | _=>exact absurd (show false=true from hs) zj
 | int i =>
  obtain ⟨t,rfl⟩:=rx;cases y with
  | non=>cases ry; exact PySem.EqNone.ne_int_none (ba I q (by simp))
  | int j=>obtain ⟨t',rfl⟩:=ry; exact ne_int (ba I q (za not jP))
  | str j=>obtain ⟨t',rfl⟩:=ry; exact PySem.EqMixed.ne_int_str (ba I q (by simp))
  | _=>exact absurd (show false=true from hs) zj
 | str i =>
  obtain ⟨t,rfl⟩:=rx;cases y with
  | non=>cases ry; exact PySem.EqNone.ne_str_none (ba I q (by simp))
  | bl j=>cases ry; exact PySem.EqMixed.ne_str_bool (ba I q (by simp))
  | int j=>obtain ⟨t',rfl⟩:=ry; exact PySem.EqMixed.ne_str_int (ba I q (by simp))
  | str j=>obtain ⟨t',rfl⟩:=ry; exact ne_str (ba I q (za not jR))
  | _=>exact absurd (show false=true from hs) zj
 | byt i =>
  obtain ⟨t,rfl⟩:=rx;cases y with
  | byt j=>obtain ⟨t',rfl⟩:=ry; exact PySem.W.ne_bytes (ba I q (za not jS))
  | _=>exact absurd (show false=true from hs) zj
 | _=>cases y <;> exact absurd (show false=true from hs) zj
theorem ib:OpR X (compareOp .Lt) (rI0 fun i j=>.bl (decide (i < j))):=opB0 fun _ _ _ _ _ _ _ q=>lt_int q
theorem pW:OpR X (compareOp .LtE) (rI0 fun i j=>.bl (decide (i<=j))):=opB0 fun _ _ _ _ _ _ _ q=>le_int q
theorem eQ:OpR X (compareOp .Gt) (rI0 fun i j=>.bl (decide (j < i))):=opB0 fun _ _ _ _ _ _ _ q=>gt_int q
theorem eR:OpR X (compareOp .Is) (fun x y H Q=>y=.non/\Q (.bl (decide (x=.non))) H):=by
 intro pins s σ H x y v u Q I rx ry h;obtain ⟨rfl,q⟩:=h;cases ry;refine is_none_gen (ba I q ?_);cases x <;> first
  | (cases rx; rfl)
  | (obtain ⟨t,rfl⟩:=rx; rfl)
theorem jT:OpR X (compareOp .IsNot) (fun x y H Q=>y=.non/\Q (.bl (!decide (x=.non))) H):=by
 intro pins s σ H x y v u Q I rx ry h;obtain ⟨rfl,q⟩:=h;cases ry;refine isnot_none_gen (ba I q ?_);cases x <;> first
  | (cases rx; rfl)
  | (obtain ⟨t,rfl⟩:=rx; rfl)
theorem nomark (b:Expr) (h:op≠.In:=by decide) (h2:op≠.NotIn:=by decide):behindInMarks op b=false:=by
 have e1:(op == CmpOp.In)=false:=by cases op <;> first | rfl | exact absurd rfl h
 have e2:(op == CmpOp.NotIn)=false:=by cases op <;> first | rfl | exact absurd rfl h2
 cases b <;> simp [behindInMarks,e1,e2]
theorem pX{r:R2} (ho:OpR X (compareOp op) r) (ha:PE X a ta) (hb:PE X b tb) (hm:behindInMarks op b=false):PE X (.Compare a [op] [b] pos) (tOp r ta tb):=by
 intro pins s σ H Q I h;exact wpAny_Compare1 (binT ha hb I h fun v u s2 x y H2 I2 rx ry q=>ho pins s2 σ H2 x y v u Q I2 rx ry q) hm
structure TB (x:V) (H:Hp) (Q:Bool->Hp->Prop):Prop where
 ex:∃ k,x=.bl k/\Q k H
def tTest (t:TE):TT:=fun σ H Q=>t σ H fun x H'=>TB x H' Q
theorem pY{r:R2} (ho:OpR X (compareOp op) r) (ha:PE X a ta) (hb:PE X b tb) (hm:behindInMarks op b=false):PT X (.Compare a [op] [b] pos) (tTest (tOp r ta tb)):=by
 intro pins s σ H Q I h;refine wpAny_isTrue_Compare1 (thn (ha pins s σ H _ I h) fun v s1 ⟨x,H1,I1,r1,q1⟩=>thn (hb pins s1 σ H1 _ I1 q1) fun u s2 ⟨y,H2,I2,r2,q2⟩ =>
  thn (ho pins s2 σ H2 x y v u _ I2 r1 r2 q2) fun c s3 ⟨z,H3,I3,r3,k,e,q3⟩=>?_) hm
 subst e;cases r3;exact Aw ⟨H3,I3,q3⟩
def tChain (r r':R2) (ta tb tc:TE):TE:=fun σ H Q=>ta σ H fun x H1=>tb σ H1 fun y H2=>r x y H2 fun z H3=>∃ k,z=.bl k /\
 (if k=true then tc σ H3 fun w' H4=>r' y w' H4 Q else Q (.bl false) H3)
theorem pZ {op':CmpOp}{r r':R2} (ho:OpR X (compareOp op) r) (ho':OpR X (compareOp op') r') (ha:PE X a ta) (hb:PE X b tb) (hc:PE X c tc)
  (hm:lastMarks [op,op'] [b,c]=false:=by with_unfolding_all rfl):PE X (.Compare a [op,op'] [b,c] pos) (tChain r r' ta tb tc):=by
 intro pins s σ H Q I h;refine Compare_chain (thn (ha pins s σ H _ I h) fun v s1 ⟨x,H1,I1,r1,q1⟩=>chain_link (thn (hb pins s1 σ H1 _ I1 q1) fun u s2 ⟨y,H2,I2,r2,q2⟩ =>
  thn (ho pins s2 σ H2 x y v u _ I2 r1 r2 q2) fun d s3 ⟨z,H3,I3,r3,k,e,q3⟩=>?_)) hm
 subst e;cases r3;refine Aw ?_;cases k with
 | false=>exact ite_ff ⟨.bl false,H3,I3,rfl,q3⟩
 | true=>exact ite_tt (chain_last (thn (hc pins s3 σ H3 _ I3 q3) fun w' s4 ⟨z',H4,I4,r4,q4⟩=>ho' pins s4 σ H4 y z' u w' Q I4 r2 r4 q4))
theorem line63:(sizeLine:Nat) < 2 ^ 63:=by rw [zf]; decide
theorem vals1 {x:V} (r:Vals [x] us):∃ u,us=[u]/\RelV x u:=by
 cases r with
 | cons r1 r2=>cases r2; exact ⟨_,rfl,r1⟩
theorem vals2 {x:V} (r:Vals [x,y] us):∃ u w',us=[u,w']/\RelV x u/\RelV y w':=by
 cases r with
 | cons r1 r2 =>
  cases r2 with
  | cons r3 r4=>cases r4; exact ⟨_,_,rfl,r1,r3⟩
theorem p0 (hc:X.calm=true):CallR X (.builtin "max") (fun xs H Q=>∃ i j,xs=[.int i,.int j]/\Q (.int (if j > i then j else i)) H):=by
 intro pins s σ H xs us Q I r h;obtain ⟨i,j,rfl,q⟩:=h;obtain ⟨u,w',rfl,⟨t,rfl⟩,⟨t',rfl⟩⟩:=vals2 r;refine max_two_ints (I.ok.hd hc) fun h' tk k=>⟨_,H,I.kept k,?_,q⟩
 by_cases hj:j > i
 ·rw [yN hj,yN hj]; exact ⟨_,rfl⟩
 ·rw [yM hj,yM hj]; exact ⟨_,rfl⟩
theorem jU (hc:X.calm=true):CallR X (.builtin "min") (fun xs H Q=>∃ i j,xs=[.int i,.int j]/\Q (.int (if j < i then j else i)) H):=by
 intro pins s σ H xs us Q I r h;obtain ⟨i,j,rfl,q⟩:=h;obtain ⟨u,w',rfl,⟨t,rfl⟩,⟨t',rfl⟩⟩:=vals2 r;refine min_two_ints (I.ok.hd hc) fun h' tk k=>⟨_,H,I.kept k,?_,q⟩
 by_cases hj:j < i
 ·rw [yN hj,yN hj]; exact ⟨_,rfl⟩
 ·rw [yM hj,yM hj]; exact ⟨_,rfl⟩
end
structure ObjM (h:Heap) (x dx C:Addr) (mA:Str->Option Value):Prop where
 obj:h.get? x=some (PySem.W.instObj C dx)
 ns:h.Ns1 dx mA
 ne:dx≠x
theorem qa (n:h.Ns1 dx mA):∃ od,h.get? dx=some od/\∀ name,PySem.W.lookIn name od=some (mA name):=by
 obtain ⟨o,es,ep,ho,hd,hk,_,hm⟩:=n;refine ⟨o,ho,fun name=>?_⟩
 have e:=hm name;unfold nsFind findBy at e;rw [<- Array.find?_toList] at e;unfold PySem.W.lookIn;rw [hd]
 dsimp only
 split
 ·rename_i y q
  rw [q] at e;exact za some e
 ·rename_i q
  rw [q] at e;have a:es.toList.any (·.refKey)=false:=by
   rw [List.any_eq_false];intro y hy;obtain ⟨z,t,hkey⟩:=hk y (Array.mem_toList_iff.mp hy);simp [DictEntry.refKey,hkey]
  have a':¬ es.toList.any (·.refKey)=true:=by rw [a]; exact zj
  rw [yM a'];exact za some e
theorem ObjM.look{x:Addr} (I:ObjM h x dx C mA):∃ od,PySem.W.InstAt h x (PySem.W.instObj C dx) C (some od)/\∀ name,PySem.W.lookIn name od=some (mA name) :=
 let ⟨od,ho,hl⟩:=qa I.ns
 ⟨od,⟨I.obj,rfl,rfl,ho⟩,hl⟩
section
variable {prog:Program}{w:World}{A:Around}{E:Value->Shared->Prop}{s:Shared}{K:PySem.W.Frag}{x dx C f:Addr}{mA:Str->Option Value}{name:Str}{v:Value}
theorem qb {expr:Bool}{Q:Value->Shared->Prop} (X:K.In s.heap) (I:ObjM s.heap x dx C mA) (hg:PySem.W.plainGet K C name=true) (hh:PySem.W.hasDictIn K C=true)
  (ha:PySem.W.findIn K (.ref C) name=some none) (hv:mA name=some v) (hv':PySem.W.handedIn v=true) (h:Q v { s with toks:=s.toks + 1 }) :
  wpAny (model prog w) A (getAttr (.ref x) name expr) Q E s:=by
 obtain ⟨od,J,hl⟩:=I.look;exact PySem.W.get_value X J (PySem.W.plainGet_of hg).1 (PySem.W.findObj_own hh ha rfl (by rw [hl,hv])) hv' h
theorem qc {pl:Sem Bool}{Q:Value × List Value->Shared->Prop} (X:K.In s.heap) (I:ObjM s.heap x dx C mA) (hg:PySem.W.plainGet K C name=true)
  (hf:PySem.W.findIn K (.ref C) name=some (some (.ref f))) (ht:PySem.W.isFn K (.ref f)=true) (hv:mA name=none) (h:Q (.ref f,[.ref x]) s) :
  wpAny (model prog w) A (getMethod (.ref x) name pl) Q E s:=by
 obtain ⟨od,J,hl⟩:=I.look;exact PySem.W.method_fn X J (PySem.W.plainGet_of hg).1 (PySem.W.plainGet_of hg).2 hf (beq_iff_eq.mp ht) (by show (PySem.W.lookIn name od).map (·.isSome)=some false; rw [hl,hv]; rfl) h
theorem qd {ns:List Str}{Q:Unit->Shared->Prop} (X:K.In s.heap) (I:ObjM s.heap x dx C mA)
  (hs:PySem.W.findIn K (.ref C) "__setattr__" = some (some (.builtin "object.__setattr__"))) (hp:PySem.W.plainOver K C=true) (ht:PySem.W.takerIn K C name=some none) (hh:PySem.W.hasDictIn K C=true)
  (hw:PySem.Within mA ns) (hsz:ns.length<=sizeLine)
  (h:∀ h',ObjM h' x dx C (fun y=>if y=name then some v else mA y)->Heap.SameBut dx s.heap h'->Q () { s with heap:=h',toks:=s.toks + 2 }) :
  wpAny (model prog w) A (setAttr (.ref x) name v) Q E s:=by
 obtain ⟨od,J,hl⟩:=I.look;refine PySem.W.set_plain X J hs (PySem.W.osa_open (s:={ s with toks:=s.toks + 1 }) (r:=none) X J hp ht fun b=>?_)
 obtain ⟨cd,hc,hd'⟩:=PySem.W.any_some hh;have hx:s.heap.get? x=some ⟨.ref C,some dx,.plain,#[]⟩:=I.obj;refine yL (yQ (yL (yL (wpAny_loadPart hx (yL (PySem.W.Looks.here (s:={ s with toks:=s.toks + 1 }) (PySem.W.looks_clsIn X hc) ?_))))))
 rw [hd'];refine yQ (a:=some dx) (yL (yQ (yL ?_)));refine wpAny_nsSet1 (s:={ s with toks:=s.toks + 1 }) I.ns fun h' hn2 hs2=>?_
 obtain ⟨oD,esD,epD,hoD,hdD,hcD⟩:=hn2.count (PySem.Within.cons name v hw);refine yL (wpAny_lookBehind hoD (by rw [hdD]; exact pastItsLine_dict (zy hcD (by rw [zK]; omega))) ?_)
 exact yQ (h _ ⟨(hs2.2 _ (yV I.ne)).trans I.obj,hn2,I.ne⟩ hs2)
theorem qe {R:Result->Shared->Prop}{vs:List Value}{kw:List (Str × Value)} (X:K.In s.heap) (hm:PySem.W.makesIn K C=true)
  (hi:PySem.W.findIn K (.ref C) "__init__" = some (some (.ref f))) (hf:PySem.W.typeIn K (.ref f)=some (.type "function"))
  (h:codeAny (model prog w) (A.under (.builtin "type.__call__" ⟨.ref C :: vs,kw⟩)) (.call (.ref f) ⟨.ref (s.heap.objs.size + 1) :: vs,kw⟩) (PySem.W.InitBack (s.heap.objs.size + 1) R)
   { s with heap:=(s.heap.push PySem.W.emptyDict).push (PySem.W.instObj C s.heap.objs.size) }) :
  codeAny (model prog w) A (.call (.ref C) ⟨vs,kw⟩) R s:=by
 obtain ⟨hh,g,d,t,os⟩:=s;exact PySem.W.make_core (PySem.W.makes_of X hm) (PySem.W.looks_findIn X hi) (fun self=>PySem.W.bind_fn X self hf) (.inl rfl) h
end
def putF (f:Str) (v:V):List (Str × V)->List (Str × V)
 | []=>[(f,v)]
 | (g,x) :: r=>if g=f then (g,v) :: r else (g,x) :: putF f v r
theorem jV (f g:Str) (v:V):∀ fs:List (Str × V),(putF f v fs).lookup g=if g=f then some v else fs.lookup g
 | []=>by
  show List.lookup g [(f,v)]=_
  by_cases h:g=f
  ·have hb:(g == f)=true:=beq_iff_eq.mpr h
   simp only [List.lookup,hb,yN h]
  ·have hb:(g == f)=false:=Af.mpr h
   simp only [List.lookup,hb,yM h]
 | (k,x) :: r=>by
  have ih:=jV f g v r;rw [show putF f v ((k,x) :: r)=(if k=f then (k,v) :: r else (k,x) :: putF f v r) from rfl]
  by_cases hk:k=f
  ·rw [yN hk]
   by_cases h:g=k
   ·have hb:(g == k)=true:=beq_iff_eq.mpr h
    simp only [List.lookup,hb,yN (h.trans hk)]
   ·have hb:(g == k)=false:=Af.mpr h
    simp only [List.lookup,hb,yM (fun e:g=f=>h (e.trans hk.symm))]
  ·rw [yM hk]
   by_cases h:g=k
   ·have hb:(g == k)=true:=beq_iff_eq.mpr h
    simp only [List.lookup,hb,yM (fun e:g=f=>hk (h.symm.trans e))]
   ·have hb:(g == k)=false:=Af.mpr h
    simp only [List.lookup,hb];exact ih
theorem ie (f:Str) (v:V):∀ fs:List (Str × V),f∈(putF f v fs).map (·.1)/\∀ g,g∈fs.map (·.1)->g∈(putF f v fs).map (·.1)
 | []=>⟨by simp [putF],fun g h=>by simp at h⟩
 | (k,x) :: r=>by
  obtain ⟨i1,i2⟩:=ie f v r;rw [show putF f v ((k,x) :: r)=(if k=f then (k,v) :: r else (k,x) :: putF f v r) from rfl]
  by_cases hk:k=f
  ·rw [yN hk]
   subst hk;exact ⟨by simp,fun g h=>by simpa using h⟩
  ·rw [yM hk]
   refine ⟨?_,fun g h=>?_⟩
   ·rw [zG]
    exact Ah _ i1
   ·rw [zG] at h ⊢
    rcases yZ.mp h with e | e
    ·exact yZ.mpr (.inl e)
    ·exact Ah _ (i2 g e)
theorem jW (f:Str) (v:V):∀ fs:List (Str × V),(putF f v fs).length<=fs.length + 1
 | []=>by simp [putF]
 | (k,x) :: r=>by
  have ih:=jW f v r;rw [show putF f v ((k,x) :: r)=(if k=f then (k,v) :: r else (k,x) :: putF f v r) from rfl]
  by_cases hk:k=f
  ·rw [yN hk,zK,zK]; omega
  ·rw [yM hk,zK,zK]; omega
theorem RelO.some_of {v:V}{o:Option Value} (r:RelO (some v) o):∃ u,o=some u/\RelV v u:=by
 cases o with
 | none=>exact (show False from r).elim
 | some u=>exact ⟨u,rfl,r⟩
theorem RelO.none_of {o:Option Value} (r:RelO none o):o=none:=by
 cases o with
 | none=>rfl
 | some u=>exact (show False from r).elim
theorem qf {v:V}{u:Value} (r:RelV v u):PySem.W.handedIn u=true:=by
 cases v with
 | non=>cases (show u=Value.none from r); rfl
 | bl b=>cases (show u=Value.bool b from r); rfl
 | int i=>obtain ⟨t,e⟩:=(show ∃ t,u=Value.int i t from r); cases e; rfl
 | str x=>obtain ⟨t,e⟩:=(show ∃ t,u=Value.str x t from r); cases e; rfl
 | byt b=>obtain ⟨t,e⟩:=(show ∃ t,u=Value.bytes b t from r); cases e; rfl
 | flt b=>obtain ⟨t,e⟩:=(show ∃ t,u=Value.float b t from r); cases e; rfl
 | ref a=>cases (show u=Value.ref a from r); rfl
 | ty n=>cases (show u=Value.type n from r); rfl
section
variable {P:Program}{w:World}{H H':Hp}{h h':Heap}{a C dx:Addr}{fs fs':List (Str × V)}
theorem eS (hok:HOk P w H h) (e:H a=some (.ins C dx fs)):∃ mA,ObjM h a dx C mA/\(∀ f,RelO (fs.lookup f) (mA f))/\PySem.Within mA (fs.map (·.1))/\fs.length<=1000/\H dx=some (.own a):=by
 obtain ⟨d,z,ne,ob,mA,n,r,q⟩:=(show ObjOk P w H h a (.ins C dx fs) from hok a _ e);exact ⟨mA,⟨ob,n,ne⟩,r,q,z,d⟩
end
structure Cls (K:PySem.W.Frag) (C:Addr):Prop where
 pg:PySem.W.plainGet K C Str.empty=true
 hd:PySem.W.hasDictIn K C=true
 po:PySem.W.plainOver K C=true
 sa:PySem.W.findIn K (.ref C) "__setattr__" = some (some (.builtin "object.__setattr__"))
theorem Cls.get (c:Cls K C) (f:Str):PySem.W.plainGet K C f=true:=c.pg
def NoAttr (K:PySem.W.Frag) (C:Addr) (f:Str):Prop:=PySem.W.findIn K (.ref C) f=some none
theorem NoAttr.taker{f:Str} (n:NoAttr K C f):PySem.W.takerIn K C f=some none:=by
 unfold PySem.W.takerIn;rw [show PySem.W.findIn K (.ref C) f=some none from n];rfl
structure Meth (K:PySem.W.Frag) (C:Addr) (m:Str) (f:Addr):Prop where
 at_:PySem.W.findIn K (.ref C) m=some (some (.ref f))
 fn:PySem.W.isFn K (.ref f)=true
 kp:PySem.W.keepIn K (.ref f)=true
section
variable {X:Cx}{pins:List (Addr × Obj)}{σ:St}{H:Hp}{s:Shared}{a C dx:Addr}{fs:List (Str × V)}{f:Str}{v:V}{A:Around}{E:Value->Shared->Prop}
theorem qg {b:Bool}{Q:Value->Shared->Prop} (I:Inv X pins σ H s) (e:H a=some (.ins C dx fs)) (c:Cls X.K C) (n:NoAttr X.K C f) (l:fs.lookup f=some v)
  (h:∀ u s',Inv X pins σ H s'->RelV v u->Q u s'):wpAny (model X.prog X.w) A (getAttr (.ref a) f b) Q E s:=by
 obtain ⟨mA,O,r,_,_,_⟩:=eS I.hok e;obtain ⟨u,hu,ru⟩:=RelO.some_of (v:=v) (o:=mA f) (by rw [<- l]; exact r f)
 exact qb I.kIn O (c.get f) c.hd n hu (qf ru) (h u _ (I.tok _) ru)
theorem jX {m:Str}{g:Addr}{pl:Sem Bool}{Q:Value × List Value->Shared->Prop} (I:Inv X pins σ H s) (e:H a=some (.ins C dx fs)) (c:Cls X.K C) (k:Meth X.K C m g) (l:fs.lookup m=none)
  (h:Q (.ref g,[.ref a]) s):wpAny (model X.prog X.w) A (getMethod (.ref a) m pl) Q E s:=by
 obtain ⟨mA,O,r,_,_,_⟩:=eS I.hok e;have hn:mA m=none:=RelO.none_of (by rw [<- l]; exact r m)
 exact qc I.kIn O (c.get m) k.at_ k.fn hn h
theorem qh{u:Value}{Q:Unit->Shared->Prop} (I:Inv X pins σ H s) (e:H a=some (.ins C dx fs)) (c:Cls X.K C) (n:NoAttr X.K C f) (hl:fs.length < 1000) (ry:RelV y u)
  (h:∀ s',Inv X pins σ (upd H a (.ins C dx (putF f y fs))) s'->Q () s'):wpAny (model X.prog X.w) A (setAttr (.ref a) f u) Q E s:=by
 obtain ⟨mA,O,r,wi,_,ho⟩:=eS I.hok e;have hz:(fs.map (·.1)).length<=sizeLine:=by rw [yS,zf]; omega
 refine qd I.kIn O c.sa c.po n.taker c.hd wi hz fun h' O' sb=>h _ ?_
 have hd:∃ o,h'.get? dx=some o:=let ⟨o,_,_,e',_⟩:=O'.ns; ⟨o,e'⟩;refine I.write (x:=a) (e:=dx) (by rw [e]; exact True.intro) (.inr ho) (fun b q hb z=>(sb.2 b hb).trans z) hd ?_
 refine ⟨by rw [aR O.ne]; exact ho,?_,O.ne,O'.obj,_,O'.ns,fun g=>?_,fun g hg=>?_⟩
 ·have:=jW f y fs; omega
 ·show RelO ((putF f y fs).lookup g) (if g=f then some u else mA g)
  rw [jV]
  by_cases q:g=f
  ·rw [yN q,yN q]; exact ry
  ·rw [yM q,yM q]; exact r g
 ·by_cases q:g=f
  ·rw [q]; exact (ie f y fs).1
  ·refine (ie f y fs).2 g (wi g fun z=>hg ?_)
   show (if g=f then some u else mA g)=none;rw [yM q]; exact z
theorem Inv.made (I:Inv X pins σ H s):Inv X pins σ (upd (upd H s.heap.objs.size (.own (s.heap.objs.size + 1))) (s.heap.objs.size + 1) (.ins C s.heap.objs.size []))
  { s with heap:=(s.heap.push PySem.W.emptyDict).push (PySem.W.instObj C s.heap.objs.size) }:=by
 have e1:(s.heap.push PySem.W.emptyDict).get? s.heap.objs.size=some PySem.W.emptyDict:=zq s.heap rfl;have e2:((s.heap.push PySem.W.emptyDict).push (PySem.W.instObj C s.heap.objs.size)).get? (s.heap.objs.size + 1)=some (PySem.W.instObj C s.heap.objs.size):=by
  have:=zq (s.heap.push PySem.W.emptyDict) (o:=PySem.W.instObj C s.heap.objs.size) rfl
  rwa [z8] at this
 have e3:(s.heap.push PySem.W.emptyDict).Ns s.heap.objs.size (fun _=>none):=⟨PySem.W.emptyDict,#[],_,e1,rfl,(fun e he=>absurd he (by simp)),fun _=>rfl⟩
 have I1:=I.laid (a:=s.heap.objs.size) (o:=.own (s.heap.objs.size + 1)) (h':=s.heap.push PySem.W.emptyDict) (t':=s.toks) (fun b u q=>yW _ q) (yP _) ⟨_,e1⟩
 refine I1.laid (a:=s.heap.objs.size + 1) (o:=.ins C s.heap.objs.size []) (t':=s.toks) (fun b u q=>yW _ q) (Nat.le_of_eq (z8 _ _)) ?_
 have ne:s.heap.objs.size≠s.heap.objs.size + 1:=y9 (A1 _);refine ⟨by rw [aR ne,ah],zZ _,ne,e2,fun _=>none,(Heap.Ns1.of_empty e3).at fun o q=>yW _ q,fun _=>True.intro,fun y hy=>absurd rfl hy⟩
theorem qi {prog:Program}{w:World}{env:Env}{e:Expr}{f:Str}{pos:Pos}{s:Shared}{Q:Value->Shared->Prop} (hb:attributeBase e f env (eval e env)=eval e env)
  (h:wpAny (model prog w) A (eval e env) (fun o s₁=>wpAny (model prog w) A (getAttr o f true) Q E s₁) E s):wpAny (model prog w) A (eval (.Attribute e f pos) env) Q E s :=
 Attribute_any_ h (by rw [arm_eval_Attribute,hb])
end
structure TFd (K:PySem.W.Frag) (f:Str) (x:V) (H:Hp) (Q:VK):Prop where
 ex:∃ a C dx fs v,x=.ref a/\H a=some (.ins C dx fs)/\Cls K C/\NoAttr K C f/\fs.lookup f=some v/\Q v H
def tFld (K:PySem.W.Frag) (ta:TE) (f:Str):TE:=fun σ H Q=>ta σ H fun x H1=>TFd K f x H1 Q
def sFld (K:PySem.W.Frag) (ta tv:TE) (f:Str):TS:=fun D σ H=>tv σ H fun y H1=>ta σ H1 fun x H2=>∃ a C dx fs,x=.ref a/\H2 a=some (.ins C dx fs)/\Cls K C/\NoAttr K C f/\fs.length < 1000 /\
 D.nx σ (upd H2 a (.ins C dx (putF f y fs)))
section
variable {X:Cx}{o e value:Expr}{f:Str}{pos pos' tpos:Pos}{ta tv:TE}
theorem jY (he:PE X e ta) (hb:attributeBase e f X.env (eval e X.env)=eval e X.env):PE X (.Attribute e f pos) (tFld X.K ta f):=by
 intro pins s σ H Q I h;refine qi hb (thn (he pins s σ H _ I h) fun u s1 ⟨x,H1,I1,rx,a,C,dx,fs,v,ex,ea,c,n,l,q⟩=>?_)
 subst ex;obtain rfl:u=Value.ref a:=rx;exact qg I1 ea c n l fun u' s2 I2 ru=>⟨v,H1,I2,ru,q⟩
theorem qj (ha:PE X o ta) (hv:PE X value tv) (hs:swapsWith value (some (.Attribute o f pos')) pos.line X.env=pure false):PS X (.Assign [.Attribute o f pos'] value pos) (sFld X.K ta tv f):=by
 intro pins s σ H D I h;refine plainObj_wpAny_Assign_Attribute (thn (hv pins s σ H _ I h) fun u s1 ⟨y,H1,I1,ry,q⟩=>thn (ha pins s1 σ H1 _ I1 q) fun ov s2 ⟨x,H2,I2,rx,a,C,dx,fs,ex,ea,c,n,l,q2⟩=>?_) hs
 subst ex;obtain rfl:ov=Value.ref a:=rx;exact qh I2 ea c n l ry fun s3 I3=>⟨σ,_,I3,q2⟩
end
section
variable {X:Cx}{pins:List (Addr × Obj)}{σ:St}{H:Hp}{s:Shared}{A:Around}{E:Value->Shared->Prop}{Q:Value->Shared->Prop}{c:Value}{b:Bool}
inductive TyOf (K:PySem.W.Frag) (H:Hp):V->Value->Prop where
 | non:TyOf K H .non (.type "NoneType")
 | bl (x:Bool):TyOf K H (.bl x) (.type "bool")
 | int (i:Int):TyOf K H (.int i) (.type "int")
 | str (x:Str):TyOf K H (.str x) (.type "str")
 | flt (x:UInt64):TyOf K H (.flt x) (.type "float")
 | lst {a:Addr}{xs:List V} (e:H a=some (.lst xs)):TyOf K H (.ref a) (.type "list")
 | frz {a:Addr}{o:Obj}{xs:List V} (e:H a=some (.frz o (.lst xs))):TyOf K H (.ref a) (.type "list")
 | tup {a:Addr}{xs:List V} (e:H a=some (.tup xs)):TyOf K H (.ref a) (.type "tuple")
 | dK {a:Addr}{kvs:List (Key × V)} (e:H a=some (.dK kvs)):TyOf K H (.ref a) (.type "dict")
 | dT {a:Addr}{kvs:List (List Key × V)} (e:H a=some (.dT kvs)):TyOf K H (.ref a) (.type "dict")
 | ins {a C dx:Addr}{fs:List (Str × V)} (e:H a=some (.ins C dx fs)) (cl:Cls K C) (ha:PySem.W.findIn K (.ref C) "__class__" = some (some (.builtin "object.__class__")))
   (hn:PySem.W.specialIn K (.builtin "object.__class__") "__get__" = some (some (.builtin "getset_descriptor.__get__"))) (htk:PySem.W.takesIn K (.builtin "object.__class__")=some true)
   (hm:PySem.W.mroIn K C (.type "object")=some true):TyOf K H (.ref a) (.ref C)
theorem qk {x:V}{u t:Value} (I:Inv X pins σ H s) (rx:RelV x u) (ty:TyOf X.K H x t) (e:PySem.W.kitOne X.K t c=some b) (h:∀ tk,Q (.bool b) { s with toks:=tk }) :
  wpAny (model X.prog X.w) A (call (.builtin "isinstance") [u,c]) Q E s:=by
 cases ty with
 | non=>cases (show u=Value.none from rx); exact z9 PySem.W.kitx_none I.kIn True.intro e (fun z=>nomatch z) h
 | bl y=>cases (show u=Value.bool y from rx); exact z9 PySem.W.kitx_bool I.kIn True.intro e (fun z=>nomatch z) h
 | int i=>obtain ⟨t,q⟩:=(show ∃ t,u=Value.int i t from rx); cases q; exact z9 PySem.W.kitx_int I.kIn True.intro e (fun z=>nomatch z) h
 | str y=>obtain ⟨t,q⟩:=(show ∃ t,u=Value.str y t from rx); cases q; exact z9 PySem.W.kitx_str I.kIn True.intro e (fun z=>nomatch z) h
 | flt y=>obtain ⟨t,q⟩:=(show ∃ t,u=Value.float y t from rx); cases q; exact z9 PySem.W.kitx_float I.kIn True.intro e (fun z=>nomatch z) h
 | @lst a xs ea =>
  cases (show u=Value.ref a from rx);obtain ⟨_,_,n,_,h1⟩:=(show ObjOk X.prog X.w H s.heap a (.lst xs) from I.hok a _ ea);exact z9 PySem.W.kitx_list I.kIn ⟨_,h1,rfl⟩ e (fun z=>nomatch z) h
 | @frz a ob xs ea =>
  cases (show u=Value.ref a from rx);obtain ⟨_,_,_,n,_,h1⟩:=(show ObjOk X.prog X.w H s.heap a (.frz ob (.lst xs)) from I.hok a _ ea);exact z9 PySem.W.kitx_list I.kIn ⟨_,h1,rfl⟩ e (fun z=>nomatch z) h
 | @tup a xs ea =>
  cases (show u=Value.ref a from rx);obtain ⟨_,_,_,p⟩:=(show ObjOk X.prog X.w H s.heap a (.tup xs) from I.hok a _ ea);obtain ⟨o,h1,h2,_⟩:=p;exact z9 PySem.W.kitx_tuple I.kIn ⟨o,h1,h2⟩ e (fun z=>nomatch z) h
 | @dK a kvs ea =>
  cases (show u=Value.ref a from rx);obtain ⟨_,_,vs,_,p⟩:=(show ObjOk X.prog X.w H s.heap a (.dK kvs) from I.hok a _ ea);obtain ⟨o,es,ep,h1,h2,_⟩:=p;exact z9 PySem.W.kitx_dict I.kIn ⟨o,h1,h2.1⟩ e (fun z=>nomatch z) h
 | @dT a kvs ea =>
  cases (show u=Value.ref a from rx);obtain ⟨_,_,xs,_,o,es,ep,h1,h2,_⟩:=(show ObjOk X.prog X.w H s.heap a (.dT kvs) from I.hok a _ ea);exact z9 PySem.W.kitx_dict I.kIn ⟨o,h1,h2.1⟩ e (fun z=>nomatch z) h
 | @ins a C dx fs ea cl ha hn htk hm =>
  cases (show u=Value.ref a from rx);obtain ⟨mA,O,_⟩:=eS I.hok ea;obtain ⟨od,J,_⟩:=O.look;exact z9 (PySem.W.kitx_own (cl.get _) cl.hd ha hn htk hm) I.kIn J e (fun z=>nomatch z) h
end
structure Room (k:Nat) (A:Around):Prop where
 hd:A.handled=none
 dp:A.depth + 3 * k + 5 < recursionLimit
 un:A.units + 16 * k + 200 < cLine
theorem Room.mono {k:Nat} (r:Room k A) (h:j<=k):Room j A:=⟨r.hd,by have:=r.dp; omega,by have:=r.un; omega⟩
theorem Room.deeper (r:Room (k + 1) A) (env:Env):Room k (A.deeper env) :=
 ⟨r.hd,by have:=r.dp; show A.depth + 1 + 3 * k + 5 < _; omega,by have:=r.un; show A.units + 3 + 16 * k + 200 < _; omega⟩
theorem qm:(A.under (.builtin "type.__call__" ⟨.ref C :: us,kw⟩)).depth=A.depth + 1:=by
 first | rfl | simp [Around.under,Code.weight,Code.isCreation,Code.isGuard,Code.isCaller,Code.frames,Code.isFrame,guardIds]
theorem qo:(A.under (.builtin "type.__call__" ⟨.ref C :: us,kw⟩)).units=A.units + 1:=by
 first | rfl | simp [Around.under,Code.cUnits,Code.frames,Code.isFrame]
theorem Room.make (r:Room (k + 1) A) (C:Addr) (us:List Value) (kw:List (Str × Value)):Room k (A.under (.builtin "type.__call__" ⟨.ref C :: us,kw⟩)) :=
 ⟨r.hd,by have:=r.dp; rw [qm]; omega,by have:=r.un; rw [qo]; omega⟩
theorem Room.depth {k:Nat} (r:Room k A):A.depth < recursionLimit:=by have:=r.dp; omega
theorem Room.units {k:Nat} (r:Room k A):A.units + 64 < cLine:=by have:=r.un; omega
def tNil:TA:=fun _ H Q=>Q [] H
def tCons (ta:TE) (tr:TA):TA:=fun σ H Q=>ta σ H fun x H1=>tr σ H1 fun xs H2=>Q (x :: xs) H2
section
variable {X:Cx}{e:Expr}{es:List Expr}{te:TE}{t:TA}{pos:Pos}
theorem qp:PA X [] tNil:=fun _ _ _ _ H Q I h=>Calls.spliced_nil ⟨[],H,I,.nil,h⟩
theorem qq (ha:PE X e te) (hr:PA X es t) (hs:starEach (e :: es) X.env=(false,eval e X.env) :: starEach es X.env:=by rfl):PA X (e :: es) (tCons te t):=by
 intro pos pins s σ H Q I h;rw [hs];show wpAny _ _ (spliced ((false,eval e X.env) :: backTo pos (starEach es X.env))) _ _ s;refine Calls.spliced_cons (thn (ha pins s σ H _ I h) fun u s1 ⟨x,H1,I1,r1,q1⟩=>?_)
 exact thn (hr pos pins s1 σ H1 _ I1 q1) fun us s2 ⟨xs,H2,I2,r2,q2⟩=>⟨x :: xs,H2,I2,.cons r1 r2,q2⟩
def tTup (t:TA):TE:=fun σ H Q=>t σ H fun xs H1=>xs.length<=sizeLine/\∀ p,H1 p=none->Q (.ref p) (upd H1 p (.tup xs))
def tLst (t:TA):TE:=fun σ H Q=>t σ H fun xs H1=>xs.length<=sizeLine/\∀ p,H1 p=none->Q (.ref p) (upd H1 p (.lst xs))
theorem qr {x1} (h:PA X es t):PE X (.Tuple es x1 pos) (tTup t):=by
 intro pins s σ H Q I hq;refine wpAny_Tuple_spliced (thn (h pos pins s σ H _ I hq) fun us s1 ⟨xs,H1,I1,r,z,q⟩=>⟨by rw [<- r.length]; exact z,?_⟩)
 have hf:H1 s1.heap.objs.size=none:=I1.hok.fresh (yP _);refine ⟨.ref s1.heap.objs.size,upd H1 s1.heap.objs.size (.tup xs),I1.laid (t':=s1.toks) (fun b u e=>yW _ e) (yP _) ?_,rfl,q _ hf⟩
 exact ⟨z,us,r,⟨_,zq _ rfl,rfl,_,rfl⟩⟩
theorem qt (h:PA X es t):PE X (.List es pos) (tLst t):=by
 intro pins s σ H Q I hq;refine wpAny_List_spliced (thn (h pos pins s σ H _ I hq) fun us s1 ⟨xs,H1,I1,r,z,q⟩=>⟨by rw [<- r.length]; exact z,?_⟩)
 have hf:H1 s1.heap.objs.size=none:=I1.hok.fresh (yP _);refine ⟨.ref s1.heap.objs.size,upd H1 s1.heap.objs.size (.lst xs),I1.laid (t':=s1.toks) (fun b u e=>yW _ e) (yP _) ?_,rfl,q _ hf⟩
 exact ⟨z,us,0,r,zq _ rfl⟩
end
abbrev Sp:=List V->Hp->VK->XK->Prop
abbrev CXT:=List Env->Hp->Shared->XK->Value->Shared->Prop
structure Env0 (P:Program) (w:World) (K:PySem.W.Frag) (mg:Str->Option Value) (base:Heap) (A:Around) (outer:List Env) (s:Shared) (H:Hp):Prop where
 frames:A.frames=some outer
 mod:Mod K mg base
 bs:∀ b o,base.get? b=some o->s.heap.get? b=some o/\H b=none
 bsz:base.objs.size<=s.heap.objs.size
 funs:s.heap.FunFrames base outer
 frf:∀ b∈frs outer,H b=none
 hok:HOk P w H s.heap
 bare:AllBare s.gens
def CE (outer:List Env) (P:Program) (w:World) (H:Hp) (s:Shared) (Q:VK) (u:Value) (s':Shared):Prop :=
 ∃ v H',s'.os=s.os/\AllBare s'.gens/\Un (frs outer) [] H H' s.heap s'.heap/\HOk P w H' s'.heap/\RelV v u/\Q v H'
def CR (CX:CXT) (outer:List Env) (P:Program) (w:World) (H:Hp) (s:Shared) (Q:VK) (E:XK) (r:Result) (s':Shared):Prop :=
 match r with
 | .ok (.ret u)=>CE outer P w H s Q u s'
 | .ok _=>False
 | .error e=>CX outer H s E e s'
structure FnOk (P:Program) (w:World) (K:PySem.W.Frag) (mg:Str->Option Value) (base:Heap) (CX:CXT) (k:Nat) (f:Addr) (fd:FuncData) (ps:List Str) (sp:Sp):Prop where
 len:∀ vs H Q E,sp vs H Q E->vs.length=ps.length
 run:∀ (A:Around) (outer:List Env) (s:Shared) (H:Hp) (args:Args) (us:List Value) (vs:List V) (Q:VK) (E:XK),Room k A->Env0 P w K mg base A outer s H->BindsTo s fd args (ps.zip us)->Vals vs us->sp vs H Q E ->
  codeAny (model P w) A (.call (.ref f) args) (CR CX outer P w H s Q E) s
theorem FnOk.mono{f:Addr} (F:FnOk P w K mg base CX j f fd ps sp) (h:j<=k) :
  FnOk P w K mg base CX k f fd ps sp:=⟨F.len,fun A outer s H args us vs Q E hr=>F.run A outer s H args us vs Q E (hr.mono h)⟩
theorem FnOk.imp{f:Addr}{sp':Sp} (F:FnOk P w K mg base CX k f fd ps sp)
  (h:∀ vs H Q E,sp' vs H Q E->sp vs H Q E):FnOk P w K mg base CX k f fd ps sp' :=
 ⟨fun vs H Q E q=>F.len vs H Q E (h _ _ _ _ q),fun A outer s H args us vs Q E hr he hb hv hs=>F.run A outer s H args us vs Q E hr he hb hv (h _ _ _ _ hs)⟩
theorem Env0.make (e:Env0 P w K mg base A outer s H) (C:Addr) (us:List Value) (kw:List (Str × Value)) :
  Env0 P w K mg base (A.under (.builtin "type.__call__" ⟨.ref C :: us,kw⟩)) outer s H:=⟨by first | exact e.frames | (simpa [Around.under,Code.envs,Code.isFrame,pushEnvs] using e.frames),e.mod,e.bs,e.bsz,e.funs,e.frf,e.hok,e.bare⟩
section
variable {X:Cx}{pins:List (Addr × Obj)}{σ:St}{H:Hp}{s s':Shared}
theorem Inv.env0 (I:Inv X pins σ H s):Env0 X.prog X.w X.K X.mg X.base X.A X.stack s H :=
 ⟨I.ok.frames,I.ok.mod,I.bs,zy I.ok.bsz I.sz,I.stack,I.stkFree,I.hok,I.bare⟩
theorem Inv.after {Q:VK}{u:Value} (I:Inv X pins σ H s) (h:CE X.stack X.prog X.w H s Q u s'):EP X pins σ Q u s':=by
 obtain ⟨v,H',os,bare,un,hok,r,q⟩:=h;obtain ⟨hh,g,d,t,os'⟩:=s';obtain rfl:os'=s.os:=os;exact ⟨v,H',I.call (h':=hh) (g':=g) (d':=d) (t':=t) (ch:=[]) un hok bare (fun b z=>absurd z (by simp)),r,q⟩
end
def tCall (sp:Sp) (dvs:List V) (E:XK) (t:TA):TE:=fun σ H Q=>t σ H fun vs H1=>sp (vs++dvs) H1 Q E
def tMeth (C:Addr) (m:Str) (sp:Sp) (dvs:List V) (E:XK) (ta:TE) (t:TA):TE:=fun σ H Q=>ta σ H fun x H1=>∃ a dx fs,x=.ref a/\H1 a=some (.ins C dx fs)/\fs.lookup m=none /\
 t σ H1 fun vs H2=>sp (x :: (vs++dvs)) H2 Q E
def tMake (C:Addr) (sp:Sp) (dvs:List V) (E:XK) (t:TA):TE:=fun σ H Q=>t σ H fun vs H1=>∀ x dx,H1 x=none->H1 dx=none->dx≠x ->
 sp (.ref x :: (vs++dvs)) (upd (upd H1 dx (.own x)) x (.ins C dx [])) (fun v H2=>v=.non/\Q (.ref x) H2) E
def Binds (K:PySem.W.Frag) (fd:FuncData) (ps:List Str) (ds:List Value):Prop :=
 ∀ (s:Shared) (us:List Value),K.In s.heap->(us++ds).length=ps.length->BindsTo s fd ⟨us,[]⟩ (ps.zip (us++ds))
theorem Binds.all (h:∀ us:List Value,us.length=ps.length->bindArgs fd ⟨us,[]⟩=pure (ps.zip us)):Binds K fd ps []:=fun s us _ hl=>by
 rw [List.append_nil] at hl ⊢;exact .of_eq (h us hl)
def Passes (CX:CXT) (X:Cx) (E:XK):Prop:=∀ (pins:List (Addr × Obj)) (σ:St) (H:Hp) (s:Shared) (e:Value) (s':Shared),Inv X pins σ H s->CX X.stack H s E e s'->X.xe e s'
section
variable {X:Cx}{CX:CXT}{k:Nat}{f C:Addr}{fd:FuncData}{ps:List Str}{sp:Sp}{dvs:List V}{ds:List Value}{E:XK}{x m:Str}{p pos apos:Pos}{e o:Expr}{es:List Expr}{ta:TE}{t:TA}
theorem fS {pins:List (Addr × Obj)}{σ:St}{H:Hp}{s:Shared}{Q:VK}{us:List Value}{vs:List V} (F:FnOk X.prog X.w X.K X.mg X.base CX k f fd ps sp) (hr:Room k X.A) (hb:Binds X.K fd ps ds) (hd:Vals dvs ds) (hx:Passes CX X E)
  (I:Inv X pins σ H s) (r:Vals vs us) (h:sp (vs++dvs) H Q E):wpAny (model X.prog X.w) X.A (call (.ref f) us) (EP X pins σ Q) X.xe s:=by
 have r2:Vals (vs++dvs) (us++ds):=r.append hd;have hl:(us++ds).length=ps.length:=by rw [<- r2.length]; exact F.len _ _ _ _ h
 refine wpAny_call (codeAny_mono (F.run X.A X.stack s H ⟨us,[]⟩ (us++ds) (vs++dvs) Q E hr I.env0 (hb s us I.kIn hl) r2 h) fun r s' hq=>?_)
 cases r with
 | error e=>exact hx pins σ H s e s' I hq
 | ok fl =>
  cases fl with
  | ret u=>exact I.after hq
  | next=>exact False.elim hq
  | brk=>exact False.elim hq
  | cont=>exact False.elim hq
theorem qu (F:FnOk X.prog X.w X.K X.mg X.base CX k f fd ps sp) (hr:Room k X.A) (hg:Gl X x) (hm:X.mg x=some (.ref f)) (hk:PySem.W.keepIn X.K (.ref f)=true) (hb:Binds X.K fd ps ds) (hd:Vals dvs ds) (hx:Passes CX X E)
  (ha:PA X (e :: es) t) (hdb:(x == ("__debug__" : Str))=false:=by decide) (he:starEach (e :: es) X.env=(false,eval e X.env) :: starEach es X.env:=by rfl) (hpl:(backTo pos (starEach es X.env)).any (·.1)=false:=by rfl) :
  PE X (.Call (.Name x p) (e :: es) [] pos) (tCall sp dvs E t):=by
 intro pins s σ H Q I h;refine wpAny_Call_Name_kw (fO I hg hm ?_ hdb);refine PySem.W.callWith_K (h₀:=X.base) I.ok.mod.kin hk (thn (ha pos pins s σ H _ I h) fun us s1 ⟨vs,H1,I1,r,q⟩=>⟨I1.kIn,?_⟩) he hpl
 exact fS F hr hb hd hx I1 r q
theorem qz {pl:Sem Bool} (he:PE X o ta) (c:Cls X.K C) (hm:Meth X.K C m f) (F:FnOk X.prog X.w X.K X.mg X.base CX k f fd ps sp) (hr:Room k X.A) (hb:Binds X.K fd ps ds) (hd:Vals dvs ds) (hx:Passes CX X E) (ha:PA X (e :: es) t)
  (hst:starEach (e :: es) X.env=(false,eval e X.env) :: starEach es X.env:=by rfl) (hpl:(backTo pos (starEach es X.env)).any (·.1)=false:=by rfl)
  (ht:eval (.Call (.Attribute o m apos) (e :: es) [] pos) X.env=(do
   let ov <- eval o X.env
   standAt apos.atName
   let (f,first) <- holding [ov] (getMethod ov m pl)
   callWith pos f first (backTo pos (starEach (e :: es) X.env)) (backToKw pos (keywordEach [] X.env))):=by rfl) :
  PE X (.Call (.Attribute o m apos) (e :: es) [] pos) (tMeth C m sp dvs E ta t):=by
 intro pins s σ H Q I h;refine PySem.W.methodCall_KW (pl:=pl) (thn (he pins s σ H _ I h) fun u s1 ⟨x,H1,I1,rx,a,dx,fs,ex,ea,l,q⟩=>?_) ht
 subst ex;obtain rfl:u=Value.ref a:=rx;refine jX I1 ea c hm l ?_;refine PySem.W.callWith_K (first:=[.ref a]) (h₀:=X.base) I.ok.mod.kin hm.kp (thn (ha pos pins s1 σ H1 _ I1 q) fun us s2 ⟨vs,H2,I2,r,q2⟩=>⟨I2.kIn,?_⟩) hst hpl
 exact fS (us:=.ref a :: us) (vs:=.ref a :: vs) F hr hb hd hx I2 (.cons rfl r) q2
theorem qA {pl:Sem Bool} (he:PE X o ta) (c:Cls X.K C) (hm:Meth X.K C m f) (F:FnOk X.prog X.w X.K X.mg X.base CX k f fd ps sp) (hr:Room k X.A) (hb:Binds X.K fd ps ds) (hd:Vals dvs ds) (hx:Passes CX X E)
  (ht:eval (.Call (.Attribute o m apos) [] [] pos) X.env=(do
   let ov <- eval o X.env
   standAt apos.atName
   let (f,first) <- holding [ov] (getMethod ov m pl)
   callWith pos f first (backTo pos (starEach [] X.env)) (backToKw pos (keywordEach [] X.env))):=by rfl) :
  PE X (.Call (.Attribute o m apos) [] [] pos) (tMeth C m sp dvs E ta tNil):=by
 intro pins s σ H Q I h;refine PySem.W.methodCall_KW (pl:=pl) (thn (he pins s σ H _ I h) fun u s1 ⟨x,H1,I1,rx,a,dx,fs,ex,ea,l,q⟩=>?_) ht
 subst ex;obtain rfl:u=Value.ref a:=rx;refine jX I1 ea c hm l ?_;exact PySem.W.callWith_K0 (first:=[.ref a]) I1.kIn hm.kp (fS (us:=[.ref a]) (vs:=[.ref a]) F hr hb hd hx I1 (.cons rfl .nil) q)
structure Mk (K:PySem.W.Frag) (C f:Addr):Prop where
 makes:PySem.W.makesIn K C=true
 init:PySem.W.findIn K (.ref C) "__init__" = some (some (.ref f))
 fn:PySem.W.isFn K (.ref f)=true
 kp:PySem.W.keepIn K (.ref C)=true
theorem jZ {pins:List (Addr × Obj)}{σ:St}{H:Hp}{s:Shared}{Q:VK}{us:List Value}{vs:List V} (M:Mk X.K C f) (F:FnOk X.prog X.w X.K X.mg X.base CX k f fd ps sp) (hr:Room (k + 1) X.A) (hb:Binds X.K fd ps ds) (hd:Vals dvs ds)
  (hx:Passes CX X E) (I:Inv X pins σ H s) (r:Vals vs us)
  (h:∀ x dx,H x=none->H dx=none->dx≠x->sp (.ref x :: (vs++dvs)) (upd (upd H dx (.own x)) x (.ins C dx [])) (fun v H2=>v=.non/\Q (.ref x) H2) E) :
  wpAny (model X.prog X.w) X.A (call (.ref C) us) (EP X pins σ Q) X.xe s:=by
 have hq:=h (s.heap.objs.size + 1) s.heap.objs.size (I.hok.fresh (Nat.le_succ _)) (I.hok.fresh (yP _)) (y9 (A1 _));have I2:=Inv.made (C:=C) I;have r2:Vals (V.ref (s.heap.objs.size + 1) :: (vs++dvs)) (Value.ref (s.heap.objs.size + 1) :: (us++ds)):=.cons rfl (r.append hd);have hl:(Value.ref (s.heap.objs.size + 1) :: us++ds).length=ps.length:=by
  have e:=r2.length;rw [F.len _ _ _ _ hq] at e;exact e.symm
 refine wpAny_call (qe (f:=f) I.kIn M.makes M.init (beq_iff_eq.mp M.fn) (codeAny_mono (F.run _ X.stack _ _ ⟨Value.ref (s.heap.objs.size + 1) :: us,[]⟩ (Value.ref (s.heap.objs.size + 1) :: (us++ds)) _ _ E (hr.make C us [])
  (I2.env0.make C us []) (hb _ (Value.ref (s.heap.objs.size + 1) :: us) I2.kIn hl) r2 hq) fun r s' hq'=>?_))
 cases r with
 | error e=>exact hx pins σ _ _ e s' I2 hq'
 | ok fl =>
  cases fl with
  | ret u =>
   obtain ⟨v,H',I3,rv,ev,q3⟩:=I2.after hq';subst ev;exact ⟨rv,⟨V.ref (s.heap.objs.size + 1),H',I3,rfl,q3⟩⟩
  | next=>exact False.elim hq'
  | brk=>exact False.elim hq'
  | cont=>exact False.elim hq'
theorem qB (M:Mk X.K C f) (F:FnOk X.prog X.w X.K X.mg X.base CX k f fd ps sp) (hr:Room (k + 1) X.A) (hg:Gl X x) (hm:X.mg x=some (.ref C)) (hb:Binds X.K fd ps ds) (hd:Vals dvs ds) (hx:Passes CX X E)
  (ha:PA X (e :: es) t) (hdb:(x == ("__debug__" : Str))=false:=by decide) (he:starEach (e :: es) X.env=(false,eval e X.env) :: starEach es X.env:=by rfl) (hpl:(backTo pos (starEach es X.env)).any (·.1)=false:=by rfl) :
  PE X (.Call (.Name x p) (e :: es) [] pos) (tMake C sp dvs E t):=by
 intro pins s σ H Q I h;refine wpAny_Call_Name_kw (fO I hg hm ?_ hdb);refine PySem.W.callWith_K (h₀:=X.base) I.ok.mod.kin M.kp (thn (ha pos pins s σ H _ I h) fun us s1 ⟨vs,H1,I1,r,q⟩=>⟨I1.kIn,?_⟩) he hpl
 exact jZ M F hr hb hd hx I1 r q
theorem qC (M:Mk X.K C f) (F:FnOk X.prog X.w X.K X.mg X.base CX k f fd ps sp) (hr:Room (k + 1) X.A) (hg:Gl X x) (hm:X.mg x=some (.ref C)) (hb:Binds X.K fd ps ds) (hd:Vals dvs ds) (hx:Passes CX X E)
  (hdb:(x == ("__debug__" : Str))=false:=by decide):PE X (.Call (.Name x p) [] [] pos) (tMake C sp dvs E tNil):=by
 intro pins s σ H Q I h;refine wpAny_Call_Name_kw (fO I hg hm ?_ hdb);exact PySem.W.callWith_K0 I.kIn M.kp (jZ (us:=[]) M F hr hb hd hx I .nil h)
end
structure FnScope (N P:List Str) (sc:Scope):Prop where
 kind:sc.kind=.function
 co:sc.isCoroutine=false
 gen:sc.isGenerator=false
 nd:N.Nodup
 pre:N.take P.length=P
 par:∀ x∈P,sc.names.lookup x=some .local\/sc.names.lookup x=some .cell
 nofree:∀ y∈sc.names,y.2≠.free
theorem j0{x:Str}:∀ {binds:List (Str × Value)}{m:Str->Option Value},(∀ v,(x,v) ∉ binds)->bindL kindOf binds m x=m x
 | [],_,_=>rfl
 | (n,v) :: r,m,h=>by
  unfold bindL;rw [j0 fun w hw=>h w (Ah _ hw)]
  split
  ·have:x≠n:=by rintro rfl; exact h v An
   simp [this]
  ·rfl
theorem j1{x:Str}:∀ {binds:List (Str × Value)}{m:Str->Option Value},(∀ v,(x,v) ∉ binds)->bindC kindOf binds m x=m x
 | [],_,_=>rfl
 | (n,v) :: r,m,h=>by
  unfold bindC;rw [j1 fun w hw=>h w (Ah _ hw)]
  split
  ·rfl
  ·have:x≠n:=by rintro rfl; exact h v An
   simp [this]
theorem j2{x:Str}{v:Value}:∀ {P:List Str}{vs:List Value}{i:Nat}{m:Str->Option Value},P.Nodup->P[i]?=some x->vs[i]?=some v->kindOf x=some .local ->
  bindL kindOf (P.zip vs) m x=some v
 | [],_,_,_,_,h,_,_=>by simp at h
 | _ :: _,[],_,_,_,_,h,_=>by simp at h
 | p :: P,w :: vs,0,m,nd,h1,h2,hk=>by
  simp at h1 h2; subst h1; subst h2;show bindL kindOf ((p,w) :: P.zip vs) m p=_;unfold bindL;rw [j0 fun v hv=>(Az.mp nd).1 (List.of_mem_zip hv).1,yN hk]
  simp
 | p :: P,w :: vs,i + 1,m,nd,h1,h2,hk=>by
  show bindL kindOf ((p,w) :: P.zip vs) m x=_;unfold bindL;exact j2 (i:=i) (Az.mp nd).2 (by simpa using h1) (by simpa using h2) hk
theorem j3{x:Str}{v:Value}:∀ {P:List Str}{vs:List Value}{i:Nat}{m:Str->Option Value},P.Nodup->P[i]?=some x->vs[i]?=some v->kindOf x≠some .local ->
  bindC kindOf (P.zip vs) m x=some v
 | [],_,_,_,_,h,_,_=>by simp at h
 | _ :: _,[],_,_,_,_,h,_=>by simp at h
 | p :: P,w :: vs,0,m,nd,h1,h2,hk=>by
  simp at h1 h2; subst h1; subst h2;show bindC kindOf ((p,w) :: P.zip vs) m p=_;unfold bindC;rw [j1 fun v hv=>(Az.mp nd).1 (List.of_mem_zip hv).1,yM hk]
  simp
 | p :: P,w :: vs,i + 1,m,nd,h1,h2,hk=>by
  show bindC kindOf ((p,w) :: P.zip vs) m x=_;unfold bindC;exact j3 (i:=i) (Az.mp nd).2 (by simpa using h1) (by simpa using h2) hk
def start (N:List Str) (vs:List V):St:=vs.map some++List.replicate (N.length - vs.length) none
def cxOf (CX:CXT) (P:Program) (w:World) (K:PySem.W.Frag) (mg:Str->Option Value) (base:Heap) (N:List Str) (qual:Str) (scope:Scope) (f:Addr) (cd:Value) (A:Around) (outer:List Env) (s:Shared) (H:Hp) (E:XK):Cx where
 prog:=P
 w:=w
 K:=K
 mg:=mg
 base:=base
 A:=A.deeper (envOfC qual scope s.heap.objs.size f cd)
 N:=N
 s₀:=s
 H₀:=H
 env:=envOfC qual scope s.heap.objs.size f cd
 outer:=outer
 stack:=envOfC qual scope s.heap.objs.size f cd :: outer
 ex:=[]
 calm:=true
 fn:=fun _=>true
 pn:=[]
 xe:=fun e s'=>wpAny (model P w) (A.deeper (envOfC qual scope s.heap.objs.size f cd)) (leaving (envOfC qual scope s.heap.objs.size f cd) e) (fun _ s''=>CX outer H s E e s'') (fun e' s''=>CX outer H s E e' s'') s'
theorem j4 {sc:Scope}{n:Nat}{x:Str} (h:sc.names.lookup x=some .cell):∃ c,(cellsFrom n sc.names []).lookup x=some c:=by
 have q:=PySem.W.cellsFrom_some sc.names n [] (.inl h);exact Option.isSome_iff_exists.mp q
theorem qD {CX:CXT}{P:Program}{w:World}{K:PySem.W.Frag}{mg:Str->Option Value}{base:Heap}{N ps:List Str}{qual:Str}{scope:Scope}{f:Addr}{cd:Value}{A:Around}{outer:List Env}{s s1:Shared}{H:Hp}{E:XK}{us:List Value}{vs:List V}
  (S:FnScope N ps scope) (hd:A.handled=none) (e0:Env0 P w K mg base A outer s H) (hl:vs.length=ps.length) (r:Vals vs us)
  (x:InCallC s s.heap.objs.size (bindL (envOfC qual scope s.heap.objs.size f cd).kindOf (ps.zip us) fun _=>none) (cellsFrom (s.heap.objs.size + 1) scope.names []) (bindC (envOfC qual scope s.heap.objs.size f cd).kindOf (ps.zip us) fun _=>none) s1) :
  Inv (cxOf CX P w K mg base N qual scope f cd A outer s H E) [] (start N vs) H s1:=by
 have hpl:ps.length<=N.length:=by have:=za List.length S.pre; rw [zH] at this; omega
 obtain ⟨h1,tk,rfl,hk⟩:=x.done;have noA:∀ b:Addr,b ∉ (cxOf CX P w K mg base N qual scope f cd A outer s H E).ex:=fun b z=>absurd (show b∈([]:List Addr) from z) (by simp)
 refine ⟨⟨e0.mod,S.kind,rfl,rfl,yP _,fun y z c h1 h2=>?_,fun y hy=>?_,fun y c _ h=>?_,fun _=>hd,Around.frames_deeper e0.frames,.inr ⟨rfl,rfl⟩,fun b z=>absurd z (noA b),e0.bs,e0.bsz,fun b _ _=>noA b,fun b z=>absurd z (noA b),e0.funs,e0.frf⟩,
  rfl,e0.bare,Un.kept hk,⟨_,x.toInCall.ns,fun i y v h1 h2 h3=>?_⟩,fun y c h=>⟨_,x.cell y c h⟩,e0.hok.fresh (yP _),fun y c h=>?_,fun p hp=>absurd (show p∈([]:List (Addr × Obj)) from hp) (by simp),e0.hok.kept hk,?_⟩
 ·exact name_of_addr x.apart (A2 h1) (A2 h2)
 ·have hy:scope.names.lookup y=some .cell\/scope.names.lookup y=some .free:=hy
  rcases hy with hy | hy
  ·exact j4 hy
  ·exact absurd rfl (S.nofree _ (A2 hy))
 ·exact zF (x.above y c (A2 h))
 ·have hi:i < vs.length:=by
   unfold start at h2
   by_cases hi:i < vs.length
   ·exact hi
   ·rw [zw (by simpa using hi)] at h2
    rw [AA] at h2
    split at h2 <;> cases h2
  have ha:vs[i]?=some v:=by
   unfold start at h2;rw [zb (by simpa using hi),yY] at h2
   cases e:vs[i]? with
   | none=>rw [e] at h2; cases h2
   | some a=>rw [e] at h2; cases h2; rfl
  obtain ⟨u,hu,rv⟩:=r.get ha;have hp:ps[i]?=some y:=by
   rw [<- S.pre,List.getElem?_take_of_lt (by omega)]; exact h1
  have ndP:ps.Nodup:=by rw [<- S.pre]; exact S.nd.sublist (List.take_sublist _ _)
  refine ⟨u,rv,?_⟩;rcases S.par y (zc hp) with k | k
  ·exact .inl ⟨k,j2 ndP hp hu k⟩
  ·obtain ⟨c,e⟩:=j4 (n:=s.heap.objs.size + 1) k
   refine .inr ⟨.inl k,c,e,?_⟩;have q:=x.cell y c e;rw [j3 ndP hp hu (by show scope.names.lookup y≠_; rw [k]; decide)] at q
   exact q
 ·exact e0.hok.fresh (zF (x.above y c (A2 h)))
 ·unfold start
  show _=N.length;rw [zk,yS,AM];omega
theorem qE {CX:CXT}{P:Program}{w:World}{K:PySem.W.Frag}{mg:Str->Option Value}{base:Heap}{k:Nat}{f:Addr}{name qual:Str}{params:Arguments}{body:List Stmt}{scope:Scope}{dV kV doc pm cdv ct oc:Value}{an od:Option Addr}
  {osl:Array (Option Value)}{N ps:List Str}{sp:Sp} (lk:K.lookup f=some ⟨oc,od,.func (PySem.W.fnOf name qual params body scope dV kV doc pm an cdv ct),osl⟩) (hcd:PySem.W.codeIn K cdv qual=true) (S:FnScope N ps scope)
  (len:∀ vs H Q E,sp vs H Q E->vs.length=ps.length)
  (hbody:∀ (A:Around) (outer:List Env) (s:Shared) (H:Hp) (vs:List V) (Q:VK) (E:XK),Room k (A.deeper (envOfC qual scope s.heap.objs.size f cdv))->sp vs H Q E ->
   ∃ t,PSs (cxOf CX P w K mg base N qual scope f cdv A outer s H E) body t/\t { nx:=fun _ H'=>Q .non H',rt:=Q } (start N vs) H) :
  FnOk P w K mg base CX (k + 1) f (PySem.W.fnOf name qual params body scope dV kV doc pm an cdv ct) ps sp:=by
 refine ⟨len,fun A outer s H args us vs Q E hr e0 hb r hsp=>?_⟩
 have hl:=len _ _ _ _ hsp;have KX:K.In s.heap:=e0.mod.kin.keeps fun b o e=>(e0.bs b o e).1
 have lim:s.heap.NoLimit:=e0.mod.nolimit.keeps fun b o e=>(e0.bs b o e).1
 have hkind:∀ y∈ps.zip us,scope.names.lookup y.1=some .local\/(scope.names.lookup y.1=some .cell/\((cellsFrom (s.heap.objs.size + 1) scope.names []).lookup y.1).isSome=true):=fun ⟨n,v⟩ hy=>by
  rcases S.par n (List.of_mem_zip hy).1 with q | q
  ·exact .inl q
  ·exact .inr ⟨q,PySem.W.cellsFrom_some _ _ _ (.inl q)⟩
 refine codeAny_call_function hr.depth (KX _ _ lk) rfl S.co S.gen rfl (PySem.W.codeRec_of KX hcd) (hb _ _ _ _ ?_);refine wpAny_newFunctionEnv_cells S.kind hkind fun env he s1 x=>?_
 subst he;refine ⟨lim.keeps x.toInCall.keep,codeAny_func ?_⟩;obtain ⟨t,ht,hq⟩:=hbody A outer s H vs Q E (hr.deeper _) hsp;have I:Inv (cxOf CX P w K mg base N qual scope f cdv A outer s H E) [] (start N vs) H s1:=qD S hr.hd e0 hl r x;refine zA (ht [] s1 (start N vs) H _ I hq) (fun fl s' hs=>?_) fun e s' hs=>hs
 have fin:∀ {σ':St}{H':Hp}{v:V}{u:Value},Inv (cxOf CX P w K mg base N qual scope f cdv A outer s H E) [] σ' H' s'->RelV v u->Q v H'->CE outer P w H s Q u s' :=
  fun {σ' H' v u} J rv q=>⟨v,H',J.os,J.bare,J.base,J.hok,rv,q⟩
 cases fl with
 | ret u =>
  obtain ⟨v,σ',H',J,rv,q⟩:=hs;exact fin J rv q
 | next =>
  obtain ⟨σ',H',J,q⟩:=hs;exact fin (v:=V.non) (u:=Value.none) J rfl q
 | brk =>
  obtain ⟨_,_,_,q⟩:=hs;exact False.elim q
 | cont =>
  obtain ⟨_,_,_,q⟩:=hs;exact False.elim q
section
variable {X:Cx}{x:Str}{p pos:Pos}{e:Expr}{es:List Expr}{t:TA}{id T:String}{r:List V->Hp->VK->Prop}
def tCB (r:List V->Hp->VK->Prop) (t:TA):TE:=fun σ H Q=>t σ H fun vs H1=>r vs H1 Q
theorem qF (hc:CallR X (.builtin id) r) (hg:Gl X x) (hm:X.mg x=none) (hv:bootBuiltins x=some (.builtin id)) (ha:PA X (e :: es) t) (hn:x ≠ "__name__" := by decide) (hdb:(x == ("__debug__" : Str))=false:=by decide)
  (he:starEach (e :: es) X.env=(false,eval e X.env) :: starEach es X.env:=by rfl) (hpl:(backTo pos (starEach es X.env)).any (·.1)=false:=by rfl):PE X (.Call (.Name x p) (e :: es) [] pos) (tCB r t):=by
 intro pins s σ H Q I h;refine wpAny_Call_Name_kw (dh I hg hm hv ?_ hn hdb);exact PyProof.Rows.callWith_builtin1 (thn (ha pos pins s σ H _ I h) fun us s1 ⟨vs,H1,I1,r1,q1⟩=>hc pins s1 σ H1 vs us Q I1 r1 q1) he hpl
theorem qG (hc:CallR X (.type T) r) (hg:Gl X x) (hm:X.mg x=none) (hv:bootBuiltins x=some (.type T)) (ha:PA X (e :: es) t) (hn:x ≠ "__name__" := by decide) (hdb:(x == ("__debug__" : Str))=false:=by decide)
  (he:starEach (e :: es) X.env=(false,eval e X.env) :: starEach es X.env:=by rfl) (hpl:(backTo pos (starEach es X.env)).any (·.1)=false:=by rfl):PE X (.Call (.Name x p) (e :: es) [] pos) (tCB r t):=by
 intro pins s σ H Q I h;refine wpAny_Call_Name_kw (dh I hg hm hv ?_ hn hdb);exact Ay (thn (ha pos pins s σ H _ I h) fun us s1 ⟨vs,H1,I1,r1,q1⟩=>hc pins s1 σ H1 vs us Q I1 r1 q1) he hpl
end
end L2
namespace HT
open PySem PyProof.Rows
variable{sl:Addr}{vl vu:Value}{lo hi:Option Int}
section
variable {prog:Program}{w:World}{A:Around}{E:Value->Shared->Prop}{s:Shared}
def sIx (n d:Nat):Option Int->Nat
 | none=>d
 | some v=>if v < 0 then (v + (n:Int)).toNat else min v.toNat n
theorem sIx_none (n d:Nat):sIx n d none=d:=rfl
theorem sIx_nat (n d k:Nat):sIx n d (some (k:Int))=min k n:=by
 show (if (k:Int) < 0 then ((k:Int) + (n:Int)).toNat else min (k:Int).toNat n)=min k n;rw [yM (by omega),A3]
theorem qH (n d:Nat) (hd:d<=n) (o:Option Int):sIx n d o<=n:=by
 cases o with
 | none=>exact hd
 | some v =>
  show (if v < 0 then (v + (n:Int)).toNat else min v.toNat n)<=n
  by_cases hv:v < 0
  ·rw [yN hv]; omega
  ·rw [yM hv]; exact Nat.min_le_right _ _
theorem j5 (v:Int) (n d:Nat):(if v < 0 then max (v + (n:Int)) 0 else min v (n:Int))=((sIx n d (some v):Nat):Int):=by
 show (if v < 0 then max (v + (n:Int)) 0 else min v (n:Int))=(((if v < 0 then (v + (n:Int)).toNat else min v.toNat n):Nat):Int)
 by_cases hv:v < 0
 ·simp only [yN hv]; omega
 ·simp only [yM hv]; omega
theorem qI (lo hi:Option Int) (n:Nat):Builtin.Slice.sliceAdjust lo hi 1 (n:Int)=(((sIx n 0 lo:Nat):Int),((sIx n n hi:Nat):Int)):=by
 have h1:¬ ((1:Int) < 0):=by omega
 unfold Builtin.Slice.sliceAdjust;simp only [h1,if_false];refine Prod.ext ?_ ?_
 ·cases lo with
  | none=>rfl
  | some v=>exact j5 v n 0
 ·cases hi with
  | none=>rfl
  | some v=>exact j5 v n n
theorem qJ (i j:Nat):Builtin.Slice.slicePlaces (i:Int) (j:Int) 1=j - i:=by
 unfold Builtin.Slice.slicePlaces;have h1:(1:Int) > 0:=by omega
 simp only [h1,if_true,Int.ediv_one]
 split <;> omega
theorem j6 {v:Value}{o:Option Int}{Q:Option Int->Shared->Prop} (p:IsPart v o) (h:Q o s):wpAny (model prog w) A (Builtin.Slice.slicePartIndex v) Q E s:=by
 cases p with
 | none=>exact slicePart_none h
 | int i t=>exact slicePart_int h
theorem qK{n:Nat}{Q:Int × Int × Nat->Shared->Prop} (hs:s.heap.IsSliceOf sl vl vu .none) (pl:IsPart vl lo) (pu:IsPart vu hi)
  (h:Q (((sIx n 0 lo:Nat):Int),1,sIx n n hi - sIx n 0 lo) s):wpAny (model prog w) A (Builtin.Slice.sliceApplied (.ref sl) (pure (n:Int))) Q E s:=by
 obtain ⟨os,hos,hcs,hds⟩:=id hs;unfold Builtin.Slice.sliceApplied Builtin.Slice.sliceFields;refine yL (yL (zl hos hds (x:=vl) rfl (yL (zl hos hds (x:=vu) rfl (yL (zl hos hds (x:=.none) rfl (yQ ?_)))))));refine yL (slicePart_none ?_);show wpAny _ _ (if ((1:Int) == 0)=true then _ else _) _ _ s;rw [yM (by decide)]
 refine yL (j6 pl (yL (j6 pu (yL (yQ ?_)))));show wpAny _ _ (match Builtin.Slice.sliceAdjust lo hi 1 (n:Int) with | (lo,hi)=>pure (lo,(1:Int),Builtin.Slice.slicePlaces lo hi 1)) _ _ s
 rw [qI lo hi n];show wpAny _ _ (pure (((sIx n 0 lo:Nat):Int),(1:Int),Builtin.Slice.slicePlaces ((sIx n 0 lo:Nat):Int) ((sIx n n hi:Nat):Int) 1)) _ _ s;rw [qJ];exact yQ h
theorem qL (xs:Array Value) (i k:Nat):((List.range k).filterMap fun (m:Nat)=>xs[((i:Int) + (m:Int) * 1).toNat]?).toArray=((xs.toList.drop i).take k).toArray:=by
 have e:(fun (m:Nat)=>xs[((i:Int) + (m:Int) * 1).toNat]?)=fun m=>xs[i + m]?:=by
  funext m
  have:((i:Int) + (m:Int) * 1).toNat=i + m:=by omega
  rw [this]
 rw [e];have:=pick_run xs i k;rw [List.filterMap_map] at this;have e2:((fun x=>xs[x]?) ∘ fun x=>i + x)=fun m=>xs[i + m]?:=rfl
 rw [e2] at this;rw [this]
theorem getItem_tuple_cut {t:Addr}{items:Array Value}{Q:Value->Shared->Prop} (ht:IsTup s.heap t items) (hs:s.heap.IsSliceOf sl vl vu .none) (pl:IsPart vl lo) (pu:IsPart vu hi)
  (hw:¬ (sIx items.size 0 lo=0/\sIx items.size items.size hi=items.size))
  (h:Q (.ref s.heap.objs.size) { s with heap:=s.heap.push { cls:=.type "tuple",data:=.seq ((items.toList.drop (sIx items.size 0 lo)).take (sIx items.size items.size hi - sIx items.size 0 lo)).toArray } })
  (hsz:items.size<=sizeLine):wpAny (model prog w) A (getItem (.ref t) (.ref sl)) Q E s:=by
 have htake:sizeOk (.seq ((items.toList.drop (sIx items.size 0 lo)).take (sIx items.size items.size hi - sIx items.size 0 lo)).toArray):=by
  show ((items.toList.drop (sIx items.size 0 lo)).take (sIx items.size items.size hi - sIx items.size 0 lo)).toArray.size<=sizeLine;rw [zd,zH,List.length_drop,Array.length_toList];omega
 have hj:sIx items.size items.size hi<=items.size:=qH _ _ (yP _) hi;obtain ⟨os,hos,hcs,hds⟩:=id hs;have hTs:s.TypeIs (.ref sl) "slice" := ⟨os,hos,hcs⟩;unfold getItem
 try with_reducible refine zY ?_
 first | refine yL (yQ ?_) | skip
 refine yL (wpAny_sequenceKey ht.typeIs (by decide) ?_)
 refine yL (Ak (name:=Str.ofString "__getitem__") ht.typeIs PyProof.Rows.slot_tuple_getitem
  (Al PyProof.Rows.slot_tuple_getitem ht.typeIs entry_tuple_getitem ?_ (args_tuple_getitem _ _)))
 show wpAny _ _ (Builtin.Tuple.tupleItemsOf (.ref t) >>= _) _ _ s;refine yL (tupleItemsOf_ ht ?_);refine yL (wpAny_typeOf hTs ?_);rw [yN (by decide)]
 refine yL (qK hs pl pu ?_);have hno:¬ ((((sIx items.size 0 lo:Nat):Int) == 0 && (1:Int) == 1 && (sIx items.size items.size hi - sIx items.size 0 lo) == items.size)=true):=by
  intro q;rw [yU,yU] at q;have q1:((sIx items.size 0 lo:Nat):Int)=0:=eq_of_beq q.1.1;have q2:sIx items.size items.size hi - sIx items.size 0 lo=items.size:=eq_of_beq q.2;exact hw ⟨by omega,by omega⟩
 show wpAny _ _ (if (((sIx items.size 0 lo:Nat):Int) == 0 && (1:Int) == 1 && (sIx items.size items.size hi - sIx items.size 0 lo) == items.size)=true then _ else _) _ _ s;rw [yM hno,qL]
 first
  | exact yL (m:=Builtin.Tuple.tupleExact _) (AB (yQ ⟨_,rfl,yQ h⟩) htake)
  | exact yL (m:=Builtin.Tuple.tupleExact _) (AB (yL (yQ (yQ ⟨_,rfl,yQ h⟩))) htake)
  | exact yL (yL (m:=Builtin.Tuple.tupleExact _) (AB (yQ (yQ ⟨_,rfl,yQ h⟩)) htake))
  | exact yL (yL (m:=Builtin.Tuple.tupleExact _) (AB (yQ ⟨_,rfl,yQ h⟩) htake))
end
end HT
namespace L2
open PySem PySem.Spec PyProof.Rows
variable{n j t':Nat}{i:Int}{v u:Value}{pins:List (Addr × Obj)}{σ:St}{H:Hp}{s:Shared}{p:Addr}{xs:List V}{its its' us:List Value}{A:Around}{y x:V}
abbrev TO:=St->Hp->(Option Int->Hp->Prop)->Prop
def PO (X:Cx) (e:Option Expr) (t:TO):Prop :=
 ∀ (pins:List (Addr × Obj)) (s:Shared) (σ:St) (H:Hp) (Q:Option Int->Hp->Prop),Inv X pins σ H s->t σ H Q ->
  wpAny (model X.prog X.w) X.A (evalPart e X.env) (fun u s'=>∃ o H',Inv X pins σ H' s'/\IsPart u o/\Q o H') X.xe s
def tNoPart:TO:=fun _ H Q=>Q none H
def tPart (t:TE):TO:=fun σ H Q=>t σ H fun x H1=>∃ i,x=.int i/\Q (some i) H1
section
variable {X:Cx}{e:Expr}{te:TE}{lo hi:Option Expr}{tl th:TO}{pos p2:Pos}
theorem qM:PO X none tNoPart:=by
 intro pins s σ H Q I h;rw [evalPart_none];exact yQ ⟨none,H,I,.none,h⟩
theorem qN (h:PE X e te):PO X (some e) (tPart te):=by
 intro pins s σ H Q I hw;rw [evalPart_some];refine thn (h pins s σ H _ I hw) fun u s1 ⟨x,H1,I1,r1,q1⟩=>?_
 obtain ⟨i,rfl,q⟩:=q1;obtain ⟨t,rfl⟩:=r1;exact ⟨some i,H1,I1,.int i t,q⟩
def SlR (X:Cx) (r:V->Option Int->Option Int->Hp->VK->Prop):Prop :=
 ∀ (pins:List (Addr × Obj)) (s:Shared) (σ:St) (H:Hp) (x:V) (v vl vu:Value) (lo hi:Option Int) (sl:Addr) (Q:VK),Inv X pins σ H s->RelV x v->s.heap.IsSliceOf sl vl vu .none->IsPart vl lo->IsPart vu hi->r x lo hi H Q ->
  ∃ T id,typeLookup (.type T) "__getitem__" = pure (some (.builtin id))/\s.TypeIs v T/\wpAny (model X.prog X.w) X.A (getItem v (.ref sl)) (EP X pins σ Q) X.xe s
def tSl (r:V->Option Int->Option Int->Hp->VK->Prop) (te:TE) (tl th:TO):TE:=fun σ H Q=>te σ H fun x H1=>tl σ H1 fun l H2=>th σ H2 fun u H3=>r x l u H3 Q
theorem qO {r:V->Option Int->Option Int->Hp->VK->Prop} (hr:SlR X r) (he:PE X e te) (hl:PO X lo tl) (hu:PO X hi th):PE X (.Subscript e (.Slice lo hi none p2) pos) (tSl r te tl th):=by
 intro pins s σ H Q I h;refine Subscript_ (thn (he pins s σ H _ I h) fun v s1 ⟨x,H1,I1,r1,q1⟩=>?_)
 refine wpAny_Slice (thn (hl pins s1 σ H1 _ I1 q1) fun vl s2 ⟨l,H2,I2,pl,q2⟩=>thn (hu pins s2 σ H2 _ I2 q2) fun vu s3 ⟨u,H3,I3,pu,q3⟩=>?_)
 rw [evalPart_none];refine yQ ?_;have I4:Inv X pins σ H3 { s3 with heap:=s3.heap.push { cls:=.type "slice",data:=.fields #[vl,vu,.none] } }:=I3.kept (t':=s3.toks) fun b ob q=>yW _ q
 obtain ⟨T,id,hT,ht,hg⟩:=hr pins { s3 with heap:=s3.heap.push { cls:=.type "slice",data:=.fields #[vl,vu,.none] } } σ H3 x v vl vu l u s3.heap.objs.size Q I4 r1 (Heap.IsSliceOf.new ..) pl pu q3
 show wpAny (model X.prog X.w) X.A (subscriptTail e (.Slice lo hi none p2) v (.ref s3.heap.objs.size)) (EP X pins σ Q) X.xe { s3 with heap:=s3.heap.push { cls:=.type "slice",data:=.fields #[vl,vu,.none] } }
 exact tail_any (ops:=[.ref s3.heap.objs.size,v]) ht hT hg (by with_unfolding_all rfl)
def cutV (xs:List V) (lo hi:Option Int):List V:=(xs.drop (HT.sIx xs.length 0 lo)).take (HT.sIx xs.length xs.length hi - HT.sIx xs.length 0 lo)
theorem qP (xs:List V) (lo hi:Option Int):(cutV xs lo hi).length<=xs.length:=by
 unfold cutV;rw [zH,List.length_drop];omega
def rSlT (K:PySem.W.Frag):V->Option Int->Option Int->Hp->VK->Prop:=fun x lo hi H Q=>∃ a xs,x=.ref a/\SqT K H a xs /\
 ¬ (HT.sIx xs.length 0 lo=0/\HT.sIx xs.length xs.length hi=xs.length)/\∀ p,H p=none->Q (.ref p) (upd H p (.tup (cutV xs lo hi)))
theorem fU:SlR X (rSlT X.K):=by
 intro pins s σ H x v vl vu lo hi sl Q I rx hs pl pu h;obtain ⟨a,xs,rfl,hx,hw,q⟩:=h;cases rx;obtain ⟨its,r,ht,hz⟩:=I.tuple hx;have hlen:its.toArray.size=xs.length:=by rw [zd]; exact r.length.symm
 refine ⟨"tuple",_,PyProof.Rows.slot_tuple_getitem.lookup,ht.typeIs,?_⟩;refine HT.getItem_tuple_cut ht hs pl pu (by rw [hlen]; exact hw) ?_ (by rw [hlen]; exact hz)
 rw [hlen];refine ⟨.ref s.heap.objs.size,_,I.laid (t':=s.toks) (o:=.tup (cutV xs lo hi)) (fun b ob q=>yW _ q) (yP _) ?_,rfl,q _ (I.hok.fresh (yP _))⟩
 exact ⟨zy (qP xs lo hi) hz,_,(r.drop (HT.sIx xs.length 0 lo)).take (HT.sIx xs.length xs.length hi - HT.sIx xs.length 0 lo),IsTup.new _ _⟩
end
def ixN (n:Nat) (i:Int):Option Nat:=if 0<=i then (if i < n then some i.toNat else none) else if -(n:Int)<=i then some (i + n).toNat else none
def atI {α:Type} (xs:List α) (i:Int):Option α:=(ixN xs.length i).bind fun j=>xs[j]?
theorem j7 (h:ixN n i=some j):seqIndex? i n=some j/\j < n/\-(n:Int)<=i/\i < n:=by
 unfold ixN at h
 by_cases h0:0<=i
 ·rw [yN h0] at h
  by_cases h1:i < n
  ·rw [yN h1] at h
   have e:i.toNat=j:=zp h;exact ⟨by rw [seqIndex_of h0 h1,e],by omega,by omega,h1⟩
  ·rw [yM h1] at h; cases h
 ·rw [yM h0] at h
  by_cases h1:-(n:Int)<=i
  ·rw [yN h1] at h
   have e:(i + n).toNat=j:=zp h;exact ⟨by rw [seqIndex_neg (by omega) h1,e],by omega,h1,by omega⟩
  ·rw [yM h1] at h; cases h
theorem j8 {α:Type}{xs:List α}{v:α} (h:atI xs i=some v):∃ j,seqIndex? i xs.length=some j/\xs[j]?=some v/\j < xs.length/\-(xs.length:Int)<=i/\i < xs.length:=by
 unfold atI at h;cases e:ixN xs.length i with
 | none=>rw [e] at h; cases h
 | some j =>
  rw [e] at h;obtain ⟨h1,h2,h3,h4⟩:=j7 e;exact ⟨j,h1,h,h2,h3,h4⟩
theorem bA {α:Type}{xs:List α}{j:Nat}{v:α} (h:xs[j]?=some v):atI xs (j:Int)=some v:=by
 have hj:j < xs.length:=(yR.mp h).1;have e:ixN xs.length (j:Int)=some j:=by
  unfold ixN;rw [yN (by omega),yN (by omega)]; simp
 unfold atI; rw [e]; exact h
def PlainIx (b:Expr):Prop:=∀ o i,subscripted b false o i=operate [o,i] (getItem o i)
def IxR (X:Cx) (r:R2):Prop :=
 ∀ (value slice:Expr) (pins:List (Addr × Obj)) (s:Shared) (σ:St) (H:Hp) (x y:V) (v u:Value) (Q:VK),Inv X pins σ H s->RelV x v->RelV y u->r x y H Q ->
  subscripted slice false v u=operate [v,u] (getItem v u)->wpAny (model X.prog X.w) X.A (subscriptTail value slice v u) (EP X pins σ Q) X.xe s
def MtR (X:Cx) (id:String) (r:V->List V->Hp->VK->Prop):Prop :=
 ∀ (pins:List (Addr × Obj)) (s:Shared) (σ:St) (H:Hp) (x:V) (xs:List V) (v:Value) (us:List Value) (Q:VK),Inv X pins σ H s->RelV x v->Vals xs us->r x xs H Q ->
  wpAny (model X.prog X.w) X.A (call (.builtin id) (v :: us)) (EP X pins σ Q) X.xe s
structure RLen (K:PySem.W.Frag) (xs:List V) (H:Hp) (Q:VK):Prop where
 ex:∃ p ys,xs=[.ref p]/\(SqL K H p ys\/SqT K H p ys)/\Q (.int ys.length) H
section
variable {X:Cx}{a b:Expr}{ta tb:TE}{pos:Pos}
theorem qQ {r:R2} (hr:IxR X r) (ha:PE X a ta) (hb:PE X b tb) (hs:PlainIx b):PE X (.Subscript a b pos) (tOp r ta tb):=by
 intro pins s σ H Q I h;exact Subscript_ (binT ha hb I h fun v u s2 x y H2 I2 rx ry q=>hr a b pins s2 σ H2 x y v u Q I2 rx ry q (hs _ _))
def rIxL (K:PySem.W.Frag):R2:=fun x y H Q=>∃ p xs i v,x=.ref p/\y=.int i/\SqL K H p xs/\atI xs i=some v/\Q v H
def rIxT (K:PySem.W.Frag):R2:=fun x y H Q=>∃ p xs i v,x=.ref p/\y=.int i/\SqT K H p xs/\atI xs i=some v/\Q v H
theorem qR:IxR X (rIxL X.K):=by
 intro value slice pins s σ H x y v u Q I rx ry h hs;obtain ⟨p,xs,i,z,rfl,rfl,hq,he,q⟩:=h;cases rx;obtain ⟨t,rfl⟩:=ry;obtain ⟨its,r,pl,hz⟩:=I.list hq;obtain ⟨j,h1,h2,h3,h4,h5⟩:=j8 he;obtain ⟨w,ew,rw'⟩:=r.get h2;have hl:=r.length;have hn:=line63;have fin:EP X pins σ Q w s:=⟨z,H,I,rw',q⟩
 by_cases h0:0<=i
 ·have hj:i.toNat=j:=by
   rw [seqIndex_of h0 h5] at h1;exact zp h1
  exact item_listR pl.isList h0 (by omega) (by rw [hj]; simpa using ew) fin hs
 ·have hj:(i + (its.toArray.size:Int)).toNat=j:=by
   rw [seqIndex_neg (by omega) h4] at h1
   rw [zd,<- hl];exact zp h1
  exact subscriptTail_builtinR (x:=w) pl.isList.typeIs slot_list_getitem.lookup
   (wpAny_getItem_list_neg (Q:=fun r s'=>r=w/\EP X pins σ Q r s') pl.isList (by omega) (by rw [zd] <;> omega) (by omega) (by rw [hj]; simpa using ew) ⟨rfl,fin⟩) hs
theorem qS:IxR X (rIxT X.K):=by
 intro value slice pins s σ H x y v u Q I rx ry h hs;obtain ⟨p,xs,i,z,rfl,rfl,hq,he,q⟩:=h;cases rx;obtain ⟨t,rfl⟩:=ry;obtain ⟨its,r,pl,hz⟩:=I.tuple hq;obtain ⟨j,h1,h2,h3,h4,h5⟩:=j8 he;obtain ⟨w,ew,rw'⟩:=r.get h2;have hl:=r.length;have hn:=line63;have fin:EP X pins σ Q w s:=⟨z,H,I,rw',q⟩;exact subscriptTail_builtinR (x:=w) pl.typeIs slot_tuple_getitem.lookup
  (getItem_tuple (j:=j) (Q:=fun r s'=>r=w/\EP X pins σ Q r s') pl (by omega) (by omega) (by rw [zd,<- hl]; exact h1) (by simpa using ew) ⟨rfl,fin⟩) hs
theorem qT (its:List Value) (n j:Nat) (u:Value):Obj.mapSeq (·.setIfInBounds j u) { cls:=.type "list",data:=.seq its.toArray n }={ cls:=.type "list",data:=.seq (its.set j u).toArray n }:=by
 simp [Obj.mapSeq]
theorem Inv.lst (I:Inv X pins σ H s) (h:H p=some (.lst xs)) :
  ∃ (its:List Value) (n:Nat),Vals xs its/\s.heap.get? p=some { cls:=.type "list",data:=.seq its.toArray n }/\xs.length<=sizeLine:=by
 obtain ⟨z,its,n,r,e⟩:=I.hok p _ h;exact ⟨its,n,r,e,z⟩
theorem Inv.lstUpd{ys:List V}{its its':List Value}{n n':Nat}{f:Obj->Obj} (I:Inv X pins σ H s) (h:H p=some (.lst xs))
  (ho:s.heap.get? p=some { cls:=.type "list",data:=.seq its.toArray n }) (hf:f { cls:=.type "list",data:=.seq its.toArray n }={ cls:=.type "list",data:=.seq its'.toArray n' }) (r:Vals ys its') (hz:ys.length<=sizeLine) (t:Nat) :
  Inv X pins σ (upd H p (.lst ys)) { s with heap:=s.heap.update p f,toks:=t }:=by
 have e:(s.heap.update p f).get? p=some { cls:=.type "list",data:=.seq its'.toArray n' }:=by
  rw [AN f ho (by rw [hf] <;> rfl),hf]
 refine I.write (x:=p) (e:=p) (by rw [h]; trivial) (.inl rfl) (fun b u hb q=>(AO _ _ (yV hb)).trans q) ⟨_,e⟩ ?_
 exact ⟨hz,its',n',r,e⟩
structure SetL (o i v:V) (H:Hp) (Q:Hp->Prop):Prop where
 ex:∃ p xs k j,o=.ref p/\i=.int k/\H p=some (.lst xs)/\ixN xs.length k=some j/\Q (upd H p (.lst (xs.set j v)))
def rSetL:V->V->V->Hp->(Hp->Prop)->Prop:=fun o i v H Q=>SetL o i v H Q
theorem cz:PSet X rSetL:=by
 intro pins s σ H o i v ov iv u Q I ro ri rv h;obtain ⟨p,xs,k,j,rfl,rfl,hp,hj,q⟩:=h;cases ro;obtain ⟨t,rfl⟩:=ri;obtain ⟨its,n,r,ho,hz⟩:=I.lst hp;obtain ⟨h1,h2,h3,h4⟩:=j7 hj;have hl:=r.length;have hn:=line63;have I':Inv X pins σ (upd H p (.lst (xs.set j v))) { s with heap:=s.heap.update p (Obj.mapSeq (·.setIfInBounds j u)) } :=
  I.lstUpd hp ho (qT its n j u) (r.set rv j) (by rw [zT]; exact hz) s.toks
 by_cases h0:0<=k
 ·have hk:k.toNat=j:=by
   rw [seqIndex_of h0 h4] at h1;exact zp h1
  exact PySem.W.ki_setAt ho h0 (by omega) (by rw [zd,<- hl]; exact h4) (by rw [hk]; exact ⟨_,I',q⟩)
 ·have hk:(k + (its.toArray.size:Int)).toNat=j:=by
   rw [seqIndex_neg (by omega) h3] at h1
   rw [zd,<- hl];exact zp h1
  exact PySem.W.ki_setBack ho (by omega) (by rw [zd,<- hl]; exact h3) (by omega) (by rw [hk]; exact ⟨_,I',q⟩)
def flatV:V->Bool
 | .non=>true
 | .bl _=>true
 | .int _=>true
 | .str _=>true
 | _=>false
def eqV:V->V->Bool
 | .non,.non=>true
 | .bl a,.bl b=>a == b
 | .bl a,.int b=>(if a then 1 else 0) == b
 | .int a,.bl b=>a == (if b then 1 else 0)
 | .int a,.int b=>a == b
 | .str a,.str b=>a == b
 | _,_=>false
theorem qU (ry:RelV y u) (rx:RelV x v) (fy:flatV y=true) (fx:flatV x=true):SeqAt.EqAt A s u v (eqV y x):=by
 cases y with
 | non =>
  cases ry;cases x with
  | non=>cases rx; exact SeqAt.EqAt.same _
  | bl b=>cases rx; exact SeqAt.EqAt.none_bool b
  | int b=>obtain ⟨t,rfl⟩:=rx; exact SeqAt.EqAt.none_int b t
  | str b=>obtain ⟨t,rfl⟩:=rx; exact SeqAt.EqAt.none_str b t
  | _=>exact absurd (show false=true from fx) zj
 | bl a =>
  cases ry;cases x with
  | non=>cases rx; exact SeqAt.EqAt.bool_none a
  | bl b=>cases rx; exact SeqAt.EqAt.bool_bool a b
  | int b=>obtain ⟨t,rfl⟩:=rx; exact SeqAt.EqAt.bool_int a b t
  | str b=>obtain ⟨t,rfl⟩:=rx; exact SeqAt.EqAt.bool_str a b t
  | _=>exact absurd (show false=true from fx) zj
 | int a =>
  obtain ⟨t',rfl⟩:=ry;cases x with
  | non=>cases rx; exact SeqAt.EqAt.int_none a t'
  | bl b=>cases rx; exact SeqAt.EqAt.int_bool a t' b
  | int b=>obtain ⟨t,rfl⟩:=rx; exact SeqAt.EqAt.int_int a t' b t
  | str b=>obtain ⟨t,rfl⟩:=rx; exact SeqAt.EqAt.int_str a t' b t
  | _=>exact absurd (show false=true from fx) zj
 | str a =>
  obtain ⟨t',rfl⟩:=ry;cases x with
  | non=>cases rx; exact SeqAt.EqAt.str_none a t'
  | bl b=>cases rx; exact SeqAt.EqAt.str_bool a t' b
  | int b=>obtain ⟨t,rfl⟩:=rx; exact SeqAt.EqAt.str_int a t' b t
  | str b=>obtain ⟨t,rfl⟩:=rx; exact SeqAt.EqAt.str_str a t' b t
  | _=>exact absurd (show false=true from fx) zj
 | _=>exact absurd (show false=true from fy) zj
def eqU (x:V) (u:Value):Bool:=match u with
 | .none=>eqV .non x
 | .bool b=>eqV (.bl b) x
 | .int i _=>eqV (.int i) x
 | .str z _=>eqV (.str z) x
 | _=>false
theorem j9 (r:RelV y u) (f:flatV y=true):eqU x u=eqV y x:=by
 cases y with
 | non=>cases r; rfl
 | bl b=>cases r; rfl
 | int i=>obtain ⟨t,rfl⟩:=r; rfl
 | str z=>obtain ⟨t,rfl⟩:=r; rfl
 | _=>exact absurd (show false=true from f) zj
theorem eT:∀ {xs:List V}{us:List Value},Vals xs us->xs.all flatV=true->us.any (eqU x)=xs.any fun y=>eqV y x
 | _,_,.nil,_=>rfl
 | y :: xs,u :: us,.cons r t,f=>by
  rw [List.all_cons,yU] at f;rw [List.any_cons,List.any_cons,j9 r f.1,eT t f.2]
theorem eU (rx:RelV x v) (fx:flatV x=true):∀ {xs:List V}{us:List Value},Vals xs us->xs.all flatV=true->∀ u∈us,SeqAt.EqAt A s u v (eqU x u)
 | _,_,.nil,_=>fun u hu=>by cases hu
 | y :: xs,u :: us,.cons r t,f=>fun u' hu=>by
  rw [List.all_cons,yU] at f;rcases yZ.mp hu with rfl | hu
  ·rw [j9 r f.1]; exact qU r rx f.1 fx
  ·exact eU rx fx t f.2 u' hu
def inV (x:V) (xs:List V):Bool:=xs.any fun y=>eqV y x
def rIn (K:PySem.W.Frag) (neg:Bool):R2:=fun x y H Q=>∃ p xs,y=.ref p/\(SqL K H p xs\/SqT K H p xs)/\flatV x=true/\xs.all flatV=true/\Q (.bl (if neg then !inV x xs else inV x xs)) H
theorem ig:OpR X (compareOp .In) (rIn X.K false):=by
 intro pins s σ H x y v u Q I rx ry h;obtain ⟨p,xs,rfl,hq,fx,fs,q⟩:=h;cases ry;rcases hq with hq | hq
 ·obtain ⟨its,r,pl,hz⟩:=I.list hq
  refine SeqAt.in_listAt (eqU x) pl.isList (fun w hw=>eU rx fx r fs w (by simpa using hw)) ⟨.bl _,H,I,rfl,?_⟩
  rw [show its.toArray.any (eqU x)=its.any (eqU x) by simp,eT r fs]
  exact q
 ·obtain ⟨its,r,pl,hz⟩:=I.tuple hq
  refine SeqAt.in_tupleAt (eqU x) pl (fun w hw=>eU rx fx r fs w (by simpa using hw)) ⟨.bl _,H,I,rfl,?_⟩
  rw [show its.toArray.any (eqU x)=its.any (eqU x) by simp,eT r fs]
  exact q
theorem ka:OpR X (compareOp .NotIn) (rIn X.K true):=by
 intro pins s σ H x y v u Q I rx ry h;obtain ⟨p,xs,rfl,hq,fx,fs,q⟩:=h;cases ry;rcases hq with hq | hq
 ·obtain ⟨its,r,pl,hz⟩:=I.list hq
  refine SeqAt.notIn_listAt (eqU x) pl.isList (fun w hw=>eU rx fx r fs w (by simpa using hw)) ⟨.bl _,H,I,rfl,?_⟩
  rw [show its.toArray.any (eqU x)=its.any (eqU x) by simp,eT r fs]
  exact q
 ·obtain ⟨its,r,pl,hz⟩:=I.tuple hq
  refine SeqAt.notIn_tupleAt (eqU x) pl (fun w hw=>eU rx fx r fs w (by simpa using hw)) ⟨.bl _,H,I,rfl,?_⟩
  rw [show its.toArray.any (eqU x)=its.any (eqU x) by simp,eT r fs]
  exact q
theorem aL:CallR X (.builtin "len") (RLen X.K):=by
 intro pins s σ H xs us Q I r h;obtain ⟨p,ys,rfl,hq,q⟩:=h;obtain ⟨u,rfl,rx⟩:=vals1 r;cases rx;have hn:=line63;rcases hq with hq | hq
 ·obtain ⟨its,r',pl,hz⟩:=I.list hq
  have hlen:=r'.length;exact Calls.call_len_list pl.isList (by simp only [zd] <;> omega) ⟨.int ys.length,H,I.tok _,⟨s.toks + 1,by rw [zd,hlen]⟩,q⟩
 ·obtain ⟨its,r',pl,hz⟩:=I.tuple hq
  have hlen:=r'.length;exact len_tuple pl (by simp only [zd] <;> omega) ⟨.int ys.length,H,I.tok _,⟨s.toks + 1,by rw [zd,hlen]⟩,q⟩
theorem di:CallR X (.type "list") (fun xs H Q=>∃ p ys,xs=[.ref p]/\(SqL X.K H p ys\/SqT X.K H p ys)/\∀ l,H l=none->Q (.ref l) (upd H l (.lst ys))):=by
 intro pins s σ H xs us Q I r h;obtain ⟨p,ys,rfl,hq,q⟩:=h;obtain ⟨u,rfl,rx⟩:=vals1 r;cases rx;have fin:∀ (its:List Value),Vals ys its->ys.length<=sizeLine->∀ (h':Heap) (c':Nat),(∀ b o',s.heap.get? b=some o'->h'.get? b=some o') ->
   h'.get? s.heap.objs.size=some { cls:=.type "list",dict:=none,data:=.seq its.toArray c',slots:=#[] }->EP X pins σ Q (.ref s.heap.objs.size) { s with heap:=h' }:=fun its r' hz h' c' kp e =>
  ⟨.ref s.heap.objs.size,_,I.laid (t':=s.toks) kp (yP _) (show ObjOk X.prog X.w _ h' _ (.lst ys) from ⟨hz,its,c',r',e⟩),rfl,q _ (I.hok.fresh (yP _))⟩
 rcases hq with hq | hq
 ·obtain ⟨its,r',pl,hz⟩:=I.list hq
  have hlen:=r'.length;obtain ⟨o,ho,hc,n,hd⟩:=pl.isList;exact call_list_seq p (.inl rfl) ho hc hd (fun h' c' kp e=>fin its r' hz h' c' kp e) (by simp only [zd] <;> omega)
 ·obtain ⟨its,r',pl,hz⟩:=I.tuple hq
  have hlen:=r'.length;obtain ⟨o,ho,hc,n,hd⟩:=pl;exact call_list_seq p (.inr rfl) ho hc hd (fun h' c' kp e=>fin its r' hz h' c' kp e) (by simp only [zd] <;> omega)
theorem dP:CallR X (.type "tuple") (fun xs H Q=>∃ p ys,xs=[.ref p]/\((SqL X.K H p ys/\∀ l,H l=none->Q (.ref l) (upd H l (.tup ys)))\/(SqT X.K H p ys/\Q (.ref p) H))):=by
 intro pins s σ H xs us Q I r h;obtain ⟨p,ys,rfl,h⟩:=h;obtain ⟨u,rfl,rx⟩:=vals1 r;cases rx;rcases h with ⟨hq,q⟩ | ⟨hq,q⟩
 ·obtain ⟨its,r',pl,hz⟩:=I.list hq
  have hlen:=r'.length;refine call_tuple_list pl.isList (fun h' kp=>?_) (by simp only [zd] <;> omega)
  have I1:Inv X pins σ H { s with heap:=h' }:=I.kept (t':=s.toks) kp
  have I2:Inv X pins σ (upd H h'.objs.size (.tup ys)) { s with heap:=h'.push { cls:=.type "tuple",data:=.seq its.toArray } } :=
   I1.laid (t':=s.toks) (fun b o e=>yW _ e) (yP _) (show ObjOk X.prog X.w _ _ _ (.tup ys) from ⟨hz,its,r',IsTup.new _ _⟩)
  exact ⟨.ref h'.objs.size,_,I2,rfl,q _ (I1.hok.fresh (yP _))⟩
 ·obtain ⟨its,r',pl,hz⟩:=I.tuple hq
  exact call_tuple_same pl ⟨.ref p,H,I,rfl,q⟩
def tyV (K:PySem.W.Frag) (T:String) (x:V) (H:Hp):Prop:=match x with
 | .str _=>T = "str"
 | .int _=>T = "int"
 | .ref p=>(T = "list" /\ ∃ xs,SqL K H p xs)\/(T = "tuple" /\ ∃ o,K.lookup p=some o/\o.cls=.type "tuple" /\ o.dict=none) \/
   (T = "dict" /\ ((∃ kvs,H p=some (.dK kvs))\/∃ kvs,H p=some (.dT kvs)))\/(T = "set" /\ ∃ S n,H p=some (.set S n))
 | _=>False
theorem kc{T:String} (I:Inv X pins σ H s) (r:RelV x v) (ty:tyV X.K T x H) :
  s.TypeIs v T/\∀ a,v=.ref a->∃ ob,s.heap.get? a=some ob/\ob.dict=none:=by
 cases x with
 | str z =>
  obtain ⟨t,rfl⟩:=r;cases (show T = "str" from ty);exact ⟨typeIs_str s z t,fun _ e=>nomatch e⟩
 | int i =>
  obtain ⟨t,rfl⟩:=r;cases (show T = "int" from ty);exact ⟨typeIs_int s i t,fun _ e=>nomatch e⟩
 | ref p =>
  cases r;rcases ty with ⟨rfl,xs,hq⟩ | ⟨rfl,o,hk,hc,hd⟩ | ⟨rfl,hk⟩ | ⟨rfl,S,n,hk⟩
  ·obtain ⟨its,_,pl,_⟩:=I.list hq
   refine ⟨pl.isList.typeIs,fun a e=>?_⟩
   cases e;obtain ⟨o,n,e,c,hd,_⟩:=pl;exact ⟨o,e,hd⟩
  ·refine ⟨⟨o,I.kIn p o hk,hc⟩,fun a e=>?_⟩
   cases e;exact ⟨o,I.kIn _ o hk,hd⟩
  ·have z:∃ o,s.heap.get? p=some o/\o.ExactDict:=by
    rcases hk with ⟨kvs,hk⟩ | ⟨kvs,hk⟩
    ·obtain ⟨_,_,_,_,o,_,_,e,ex,_⟩:=I.hok p _ hk
     exact ⟨o,e,ex⟩
    ·obtain ⟨_,_,_,_,o,_,_,e,ex,_⟩:=I.hok p _ hk
     exact ⟨o,e,ex⟩
   obtain ⟨o,e,ex⟩:=z;refine ⟨⟨o,e,ex.1⟩,fun a e2=>?_⟩
   cases e2;exact ⟨o,e,ex.2.1⟩
  ·obtain ⟨o,_,_,_,e,ex,_⟩:=I.hok p _ hk
   refine ⟨⟨o,e,ex.1⟩,fun a e2=>?_⟩
   cases e2;exact ⟨o,e,ex.2.1⟩
 | _=>exact False.elim ty
def tBM0 (K:PySem.W.Frag) (T:String) (r:V->List V->Hp->VK->Prop) (to:TE):TE:=fun σ H Q=>to σ H fun x H1=>tyV K T x H1/\r x [] H1 Q
def tBM (K:PySem.W.Frag) (T:String) (r:V->List V->Hp->VK->Prop) (to:TE) (t:TA):TE:=fun σ H Q=>to σ H fun x H1=>tyV K T x H1/\t σ H1 fun xs H2=>r x xs H2 Q
variable {o e:Expr}{es:List Expr}{to:TE}{t:TA}{name:Str}{apos cpos:Pos}{T id:String}{r:V->List V->Hp->VK->Prop}
theorem qV (pa:PlainAttrs T) (slot:Slot T name id) (hty:typeOf (.builtin id)=pure (.type "method_descriptor")) (hm:MtR X id r) (ho:PE X o to)
  (hbase:attributeBase o name X.env (eval o X.env)=eval o X.env:=by rfl) (hline:(apos.endLine == cpos.line)=true:=by rfl):PE X (.Call (.Attribute o name apos) [] [] cpos) (tBM0 X.K T r to):=by
 intro pins s σ H Q I h;refine wpAny_Call_method0_late hbase hline (thn (ho pins s σ H _ I h) fun v s1 ⟨x,H1,I1,r1,ty,q1⟩=>?_)
 obtain ⟨h1,h2⟩:=kc I1 r1 ty;exact ⟨T,id,pa,slot,hty,h1,h2,Calls.callWith_builtin rfl (PySem.evalArgs_none (hm pins s1 σ H1 x [] v [] Q I1 r1 .nil q1))⟩
theorem ke (pa:PlainAttrs T) (slot:Slot T name id) (hty:typeOf (.builtin id)=pure (.type "method_descriptor")) (hm:MtR X id r) (ho:PE X o to) (ha:PA X (e :: es) t)
  (hbase:attributeBase o name X.env (eval o X.env)=eval o X.env:=by rfl)
  (hfew:((backTo cpos (starEach (e :: es) X.env)).all (fun x=>!x.1) && (backToKw cpos (keywordEach [] X.env)).all (fun x=>x.1.isSome)
   && decide ((e :: es).length + ([]:List Keyword).length + (if ([]:List Keyword).isEmpty then 0 else 1) < 30))=true:=by rfl)
  (hline:(apos.endLine == cpos.line)=true:=by rfl) (hs:starEach (e :: es) X.env=(false,eval e X.env) :: starEach es X.env:=by rfl) (hplain:(backTo cpos (starEach es X.env)).any (·.1)=false:=by rfl) :
  PE X (.Call (.Attribute o name apos) (e :: es) [] cpos) (tBM X.K T r to t):=by
 intro pins s σ H Q I h;refine wpAny_Call_method_late hbase hfew hline rfl (thn (ho pins s σ H _ I h) fun v s1 ⟨x,H1,I1,r1,ty,q1⟩=>?_)
 obtain ⟨h1,h2⟩:=kc I1 r1 ty;refine ⟨T,id,pa,slot,hty,h1,h2,?_⟩;have hA:=ha cpos pins s1 σ H1 _ I1 q1;rw [hs] at hA ⊢;refine Calls.callWith_builtin (by show (false || (backTo cpos (starEach es X.env)).any (·.1))=false; rw [hplain] <;> rfl) (Calls.evalArgs_plain ?_)
 exact thn hA fun us s2 ⟨vs,H2,I2,r2,q2⟩=>hm pins s2 σ H2 x vs v us Q I2 r1 r2 q2
end
def MtM (X:Cx) (id:String) (r:V->List V->Hp->VK->Prop):Prop :=
 ∀ (pins:List (Addr × Obj)) (s:Shared) (σ:St) (H:Hp) (x:V) (xs:List V) (v:Value) (us:List Value) (Q:VK),Inv X pins σ H s->RelV x v->Vals xs us->r x xs H Q ->
  wpAny (model X.prog X.w) X.A (call (.builtin id) (v :: us)) (EP X pins σ Q) X.xe s
theorem Vals.one:∀ {x:V}{us:List Value},Vals [x] us->∃ u,us=[u]/\RelV x u
 | _,_,.cons r .nil=>⟨_,rfl,r⟩
theorem Vals.zero:∀ {us:List Value},Vals [] us->us=[]
 | _,.nil=>rfl
theorem Vals.dropLast (h:Vals xs us):Vals xs.dropLast us.dropLast:=by
 induction h with
 | nil=>exact .nil
 | cons r t ih =>
  cases t with
  | nil=>exact .nil
  | cons q t'=>exact .cons r ih
theorem Vals.rep (h:Vals xs us):∀ k:Nat,Vals (List.replicate k xs).flatten (List.replicate k us).flatten
 | 0=>.nil
 | k + 1=>by
  rw [Aq,Aq,A4,A4];exact Vals.append h (Vals.rep h k)
theorem qW {α:Type} (l:List α):l.eraseIdx (l.length - 1)=l.dropLast:=by
 induction l with
 | nil=>rfl
 | cons a r ih =>
  cases r with
  | nil=>rfl
  | cons b r =>
   have e:(a :: b :: r).length - 1=((b :: r).length - 1) + 1:=by
    have h1:(a :: b :: r).length=r.length + 2:=rfl;have h2:(b :: r).length=r.length + 1:=rfl;omega
   rw [e,List.eraseIdx_cons_succ,ih]
   all_goals rfl
theorem kg (its:List Value):∀ (k:Nat) (acc:List Value),
  List.foldl (fun x1 x2=>x1++x2) acc.toArray (List.replicate k its.toArray)=(acc++(List.replicate k its).flatten).toArray
 | 0,acc=>by simp
 | k + 1,acc=>by
  have e:acc.toArray++its.toArray=(acc++its).toArray:=by simp
  have e2:(acc++its)++(List.replicate k its).flatten=acc++(List.replicate (k + 1) its).flatten:=by
   rw [Aq,A4,List.append_assoc]
  rw [<- e2,<- kg its k (acc++its),<- e,Aq,List.foldl_cons]
section
variable {X:Cx}{pins:List (Addr × Obj)}{σ:St}{H:Hp}{s:Shared}{l b:Addr}{xs ys zs:List V}
theorem Inv.lset {its its':List Value}{n:Nat}{f:Array Value->Array Value}{t':Nat} (I:Inv X pins σ H s) (hH:H l=some (.lst xs))
  (e:s.heap.get? l=some { cls:=.type "list",data:=.seq its.toArray n }) (hf:f its.toArray=its'.toArray) (hv:Vals ys its') (hz:ys.length<=sizeLine) :
  Inv X pins σ (upd H l (.lst ys)) { s with heap:=s.heap.update l (Obj.mapSeq f),toks:=t' }:=by
 have q:=PySem.IsL.update e f;rw [hf] at q;refine I.write (x:=l) (e:=l) (by rw [hH]; exact trivial) (.inl rfl) (fun b' u hb hu=>(AO s.heap (Obj.mapSeq f) (yV hb)).trans hu) ⟨_,q⟩ ?_
 exact ⟨hz,its',_,hv,q⟩
theorem Inv.lnew{t':Nat} (I:Inv X pins σ H s) (hv:Vals ys its) (hz:ys.length<=sizeLine) :
  Inv X pins σ (upd H s.heap.objs.size (.lst ys)) { s with heap:=s.heap.push { cls:=.type "list",data:=.seq its.toArray },toks:=t' } :=
 I.laid (fun _ _ q=>yW _ q) (yP _) ⟨hz,its,0,hv,zq _ rfl⟩
theorem Inv.fresh (I:Inv X pins σ H s):H s.heap.objs.size=none:=I.hok.fresh (yP _)
theorem Inv.lstM (I:Inv X pins σ H s) (hH:H l=some (.lst xs)):xs.length<=sizeLine/\∃ (its:List Value) (n:Nat),Vals xs its/\xs.length=its.length/\s.heap.get? l=some { cls:=.type "list",data:=.seq its.toArray n }:=by
 obtain ⟨z,its,n,r,e⟩:=I.hok l _ hH;exact ⟨z,its,n,r,r.length,e⟩
theorem notLongL (h:n<=sizeLine):Builtin.List.listTooLong n=false:=by
 unfold Builtin.List.listTooLong;exact zv (by omega)
end
section
variable {X:Cx}
def rAppend:V->List V->Hp->VK->Prop:=fun x vs H Q=>∃ l xs y,x=.ref l/\vs=[y]/\H l=some (.lst xs)/\xs.length < sizeLine/\Q .non (upd H l (.lst (xs++[y])))
theorem cC:MtM X "list.append" rAppend:=by
 intro pins s σ H x vs v us Q I rx rv h;obtain ⟨l,xs,y,rfl,rfl,hH,hz,q⟩:=h;cases rx;obtain ⟨u,rfl,ru⟩:=rv.one;obtain ⟨z,its,n,r,hl,e⟩:=I.lstM hH;refine call_meets F.slot_list_append ⟨_,e,rfl⟩ F.entry_list_append (F.args_list_append_2 _ _) (PySem.list_append l its.toArray n u (by rw [zd]; omega)) ⟨e,?_⟩
 refine ⟨.non,_,I.lset (its':=its++[u]) hH e (by simp) (r.append (.cons ru .nil)) ?_,rfl,q⟩
 rw [zk,AD];omega
def rExtend:V->List V->Hp->VK->Prop:=fun x vs H Q=>∃ l b xs zs,x=.ref l/\vs=[.ref b]/\H l=some (.lst xs)/\H b=some (.lst zs)/\xs.length + zs.length<=sizeLine/\Q .non (upd H l (.lst (xs++zs)))
theorem qX:MtM X "list.extend" rExtend:=by
 intro pins s σ H x vs v us Q I rx rv h;obtain ⟨l,b,xs,zs,rfl,rfl,hH,hB,hz,q⟩:=h;cases rx;obtain ⟨u,rfl,ru⟩:=rv.one;cases ru;obtain ⟨z,its,n,r,hl,e⟩:=I.lstM hH;obtain ⟨z2,its2,n2,r2,hl2,e2⟩:=I.lstM hB;have hsz:its.toArray.size + its2.toArray.size<=sizeLine:=by rw [zd,zd]; omega
 have hlong:¬ (!its.toArray.isEmpty && Builtin.List.listTooLong (its.toArray.size + its2.toArray.size))=true:=by
  rw [notLongL hsz,Bool.and_false];exact zj
 refine call_meets F.slot_list_extend ⟨_,e,rfl⟩ F.entry_list_extend (F.args_list_extend_2 _ _)
  (AutoSeq1.list_extend_list_list_0 l its.toArray n b its2.toArray n2 hlong (by rw [zd]; omega) (by omega)) ⟨e,e2,?_⟩
 refine ⟨.non,_,I.lset (its':=its++its2) hH e (by simp) (r.append r2) ?_,rfl,q⟩
 rw [zk];omega
def rPop:V->List V->Hp->VK->Prop:=fun x vs H Q=>∃ l xs y,x=.ref l/\vs=[]/\H l=some (.lst xs)/\xs[xs.length - 1]?=some y/\Q y (upd H l (.lst xs.dropLast))
theorem qY:MtM X "list.pop" rPop:=by
 intro pins s σ H x vs v us Q I rx rv h;obtain ⟨l,xs,y,rfl,rfl,hH,hy,q⟩:=h;cases rx;have hus:=rv.zero;subst hus;obtain ⟨z,its,n,r,hl,e⟩:=I.lstM hH;obtain ⟨u,hu,ru⟩:=r.get hy;have hy':its.toArray[its.toArray.size - 1]?=some u:=by
  show its.toArray[its.length - 1]?=some u;rw [<- Array.getElem?_toList,<- hl];exact hu
 refine call_meets F.slot_list_pop ⟨_,e,rfl⟩ F.entry_list_pop (F.args_list_pop_1 _) (MeetsSeq.list_pop_last l its.toArray n u hy' (by rw [zd]; omega)) ⟨e,?_⟩
 refine ⟨y,_,I.lset (its':=its.dropLast) hH e ?_ r.dropLast ?_,ru,q⟩
 ·show its.toArray.eraseIdxIfInBounds (its.toArray.size - 1)=its.dropLast.toArray
  rw [zd,List.eraseIdxIfInBounds_toArray,qW]
 ·rw [List.length_dropLast]
  omega
def rCat:R2:=fun x y H Q=>∃ l b xs zs,x=.ref l/\y=.ref b/\H l=some (.lst xs)/\H b=some (.lst zs)/\xs.length + zs.length<=sizeLine/\∀ p,H p=none->Q (.ref p) (upd H p (.lst (xs++zs)))
theorem dQ:OpR X (binaryOp .Add) rCat:=by
 intro pins s σ H x y v u Q I rx ry h;obtain ⟨l,b,xs,zs,rfl,rfl,hH,hB,hz,q⟩:=h;cases rx;cases ry;obtain ⟨z,its,n,r,hl,e⟩:=I.lstM hH;obtain ⟨z2,its2,n2,r2,hl2,e2⟩:=I.lstM hB;refine PySem.P.add_list e e2 ?_ (by rw [zd,zd]; omega)
 have ea:its.toArray++its2.toArray=(its++its2).toArray:=by simp
 rw [ea];exact ⟨.ref _,_,I.lnew (t':=s.toks) (r.append r2) (by rw [zk]; omega),rfl,q _ I.fresh⟩
def rRep:R2:=fun x y H Q=>∃ l k xs,x=.ref l/\y=.int k/\H l=some (.lst xs)/\-(2 ^ 63)<=k/\k < 2 ^ 63/\xs.length * k.toNat<=sizeLine /\
 ∀ p,H p=none->Q (.ref p) (upd H p (.lst (List.replicate k.toNat xs).flatten))
theorem qZ {α:Type} (xs:List α) (k:Nat):(List.replicate k xs).flatten.length=k * xs.length:=by
 induction k with
 | zero=>simp
 | succ k ih=>rw [Aq,A4,zk,ih,Nat.succ_mul,Nat.add_comm]
theorem ij:OpR X (binaryOp .Mult) rRep:=by
 intro pins s σ H x y v u Q I rx ry h;obtain ⟨l,k,xs,rfl,rfl,hH,h1,h2,hz,q⟩:=h;cases rx;obtain ⟨t,rfl⟩:=ry;obtain ⟨z,its,n,r,hl,e⟩:=I.lstM hH;have hlen:its.toArray.size * k.toNat<=sizeLine:=by rw [zd,<- hl]; exact hz
 have hcap:¬ its.toArray.size * k.toNat > (2 ^ 63 - 1) / 8:=by
  have:(sizeLine:Nat)<=(2 ^ 63 - 1) / 8:=by decide
  omega
 have hfit:¬ (!Builtin.List.listFitsIndex k)=true:=by
  rw [fitsIndex_both h1 h2];exact zj
 have hlong:¬ Builtin.List.listTooLong (its.toArray.size * k.toNat)=true:=by
  rw [notLongL hlen];exact zj
 have hnew:List.foldl (fun x1 x2=>x1++x2) #[] (List.replicate (if its.toArray.isEmpty=true then 0 else k.toNat) its.toArray)=(List.replicate k.toNat its).flatten.toArray:=by
  have f0:∀ m:Nat,List.foldl (fun x1 x2=>x1++x2) #[] (List.replicate m its.toArray)=(List.replicate m its).flatten.toArray:=fun m=>by
   have:=kg its m [];rw [List.nil_append] at this;exact this
  rw [f0];cases its with
  | nil=>simp
  | cons a r'=>rw [yM (by simp)]
 refine wpAny_binaryOp_repeat_ref (T := "list") (U := "int") (by decide) ⟨_,e,rfl⟩ (fun s'=>typeIs_int s' k t) noFill_list_mul F.fills_int_mul F.slot_int_rmul repeat_list F.slot_int_index.lookup
  (call_meets F.slot_int_rmul (typeIs_int s k t) F.entry_int_rmul (F.args_int_rmul_2 _ _) (int___rmul___int_list k t l its.toArray n)
   ⟨e,rfl,⟨_,e,rfl⟩,call_meets F.slot_list_mul ⟨_,e,rfl⟩ F.entry_list_mul (F.args_list_mul_2 _ _) (AutoListH.list___mul___list_int_3 l its.toArray n k t hfit hcap hlong) ⟨e,?_⟩⟩)
 rw [hnew];exact ⟨.ref _,_,I.lnew (t':=s.toks) (r.rep k.toNat) (by rw [qZ,Nat.mul_comm]; exact hz),rfl,q _ I.fresh⟩
end
end L2
namespace Att
open PySem PySem.W PySem.Calls PyProof.Rows
theorem q0 {P:Params}{h:Heap}:∀ (ns:List Int) (vs:List Value),WellAll P h vs (ns.map WData.int)->IntsAre vs ns:=by
 intro ns
 induction ns with
 | nil =>
  intro vs w;rw [List.map_nil] at w;cases w;exact .nil
 | cons n ns ih =>
  intro vs w;rw [zG] at w;cases w with
  | cons a b =>
   cases a;exact .cons _ _ (ih _ b)
theorem q5 {l:OpenLaw}{n:Nat} (hn:l.most=some n) {P:Params}{h:Heap}{args:List WData}{vals:List Value}
  (hpre:l.row.toRowW.claim.pre args=true) (hwl:WellAll P h vals args) :
  ∃ a vs ns,vals=[Value.ref a]/\args=[WData.list (ns.map WData.int)]/\h.get? a=some { cls:=.type "list",data:=.seq vs.toArray }/\IntsAre vs ns/\ns.length<=n:=by
 have hsh:WShape.hasAll [] args [.list .int]=true:=(pre_splitW hpre).1;have hc:l.pre.holds [] { args:=args }=true:=(pre_splitW hpre).2;obtain ⟨d,r,rfl,h1,h2⟩:=hasAllW_cons hsh;obtain rfl:=hasAllW_nil h2;obtain ⟨xs,rfl,h3⟩:=hasW_list h1;obtain ⟨ns,rfl⟩:=items_int h3;have hlen:ns.length<=n:=by
  unfold OpenLaw.pre at hc;have h4:(WTm.not (.lt (.lit (.int (n:Int))) (.len (.arg 0)))).holds [] { args:=[.list (ns.map .int)] }=true:=by
   have h4:=(holds_andW hc).1;rw [hn] at h4;exact h4
  have h5:=condW_of h4 (w_not (w_lt w_lit (w_len_list (w_arg rfl))));rw [yS] at h5;refine Nat.le_of_not_lt fun q=>?_
  have q':(n:Int) < ((ns.length:Nat):Int):=by omega
  first
   | (rw [y8 q'] at h5; exact absurd h5 (by decide))
   | (simp at h5; omega)
 cases hwl with
 | cons w1 w2 =>
  cases w2;cases w1 with
  | list ho hall=>exact ⟨_,_,ns,rfl,rfl,ho,q0 ns _ hall,hlen⟩
theorem q9 (l:OpenLaw) (args:List WData):l.row.toRowW.claim.post args (.bool true) args=true :=
 postW_of (r:=l.row.toRowW) (X:=(true == true))
  (show WShape.has [] (.bool true) .bool=true by first | rfl | decide | simp [WShape.has,WShape.arms,WShape.armsAll])
  (show (WTm.eq .res (.lit (.bool true))).value [] { args:=args,res:=some (.bool true),after:=args }=some (.bool (true == true)) from w_eq_bool (w_res rfl) w_lit) rfl
theorem attach_call {l:OpenLaw}{n:Nat}{q:Program}{loose:List Str}{XP:(Str->Option Value)->Heap->Prop}{YP:World->Heap->Prop}{d:DefRec}
  (hn:l.most=some n) (hdf:d.params.defaults=[])
  (call:∀ (w:World) (s₀ s₁:Shared) (mg mb:Str->Option Value) (fa:Addr) (o:Obj) (pm cd doc:Value) (a:Addr) (vs:List Value) (ns:List Int),
   Ground q loose [] XP w s₀ mg mb s₁.heap->YP w s₁.heap ->
   s₁.heap.get? fa=some o->o.data=.func (docDef d.name d.params d.body d.scope pm cd doc)->s₁.heap.CodeRec cd d.name->mg d.name=some (.ref fa) ->
   s₁.heap.get? a=some { cls:=.type "list",data:=.seq vs.toArray }->IntsAre vs ns->ns.length<=n->s₁.gens=#[] ->
   codeAny (model l.prog w) callerA (.call (.ref fa) ⟨[.ref a],[]⟩) (fun r s'=>r=.ok (.ret (.bool true))/\OldK s₁.heap s'.heap/\s'.os=s₁.os/\AllBare s'.gens) s₁) :
  WalkO q loose XP YP l.row.toRowW d [] (fun f vs=>PySem.call f vs):=by
 intro w s₀ s₁ mg mb G Y fa o pm cd doc dV kV ho hd hcd hD hmg hg args vals as hpre hlay hrd hwl hlo;obtain rfl:dV=.none:=Dflts.none hD hdf;obtain rfl:kV=.none:=Dflts.noKw hD;obtain ⟨a,vs,ns,rfl,rfl,hobj,hints,hlen⟩:=q5 hn hpre hwl;refine enter_call (codeAny_mono (call w s₀ s₁ mg mb fa o pm cd doc a vs ns G Y ho (fd_plain hd) hcd hmg hobj hints hlen hg) fun r s' hq=>?_)
 obtain ⟨rfl,h2,h3,h4⟩:=hq;exact ⟨.inl ⟨.bool true,.bool true,[],rfl,fun _=>rfl,.bool true,q9 l _,fun _=>⟨List.Pairwise.nil,fun _ hm=>(nomatch hm)⟩⟩,h2,h3,h4⟩
end Att
namespace L2
open PySem PySem.Spec PyProof.Rows
theorem kh:∀ {vs:List Value}{ns:List Int},IntsAre vs ns->Vals (ns.map V.int) vs
 | _,_,.nil=>.nil
 | _,_,.cons n t h=>.cons ⟨t,rfl⟩ (kh h)
def Only (H:Hp):Prop:=∀ b,H b=none\/∃ o xs,H b=some (.frz o (.lst xs))
theorem rb {P:Program}{w:World}{K:PySem.W.Frag}{mg mb:Str->Option Value}{CX:CXT}{k:Nat}{fa a:Addr}{fd:FuncData}{x:Str}{sp:Sp}{s₁:Shared}{vs:List Value}{ns:List Int}
  (KX:K.In s₁.heap) (hns:s₁.heap.Ns mainGlobals mg) (hb:s₁.heap.Ns builtinsNs mb) (hbb:∀ x:Str,x ≠ "__name__" -> mb x=bootBuiltins x) (hlim:s₁.heap.NoLimit) (hg:s₁.gens=#[])
  (ha:s₁.heap.get? a=some { cls:=.type "list",data:=.seq vs.toArray }) (hi:IntsAre vs ns) (hl:ns.length<=sizeLine) (hr:Room k callerA)
  (F:∀ base:Heap,K.In base->base.Ns mainGlobals mg->FnOk P w K mg base CX k fa fd [x] sp) (hbind:∀ (s:Shared) (u:Value),BindsTo s fd ⟨[u],[]⟩ [(x,u)])
  (hsp:∀ H:Hp,Only H->SqL K H a (ns.map V.int)->sp [.ref a] H (fun v _=>v=.bl true) fun _ _ _=>False)
  (hCX:∀ H e s',CX [] H s₁ (fun _ _ _=>False) e s'->False) :
  codeAny (model P w) callerA (.call (.ref fa) ⟨[.ref a],[]⟩) (fun r s'=>r=.ok (.ret (.bool true))/\OldK s₁.heap s'.heap/\s'.os=s₁.os/\AllBare s'.gens) s₁:=by
 have rv:=kh hi;have lenV:=hi.length;have core:∀ H:Hp,Only H->SqL K H a (ns.map V.int)->HOk P w H s₁.heap->(∀ b,H b≠none->b=a)->(H a≠none->K.lookup a=none) ->
   codeAny (model P w) callerA (.call (.ref fa) ⟨[.ref a],[]⟩) (fun r s'=>r=.ok (.ret (.bool true))/\OldK s₁.heap s'.heap/\s'.os=s₁.os/\AllBare s'.gens) s₁:=by
  intro H hO hS hok hA hK;have base_of:∀ {b:Addr}{o:Obj},s₁.heap.get? b=some o->H b=none->(hidT s₁.heap H).get? b=some o:=fun e n=>oG e n
  have noA:∀ {b:Addr}{o:Obj}{es:Array DictEntry}{ep:Nat},s₁.heap.get? b=some o->o.data=.dict es ep->H b=none:=fun {b o es ep} e d=>by
   cases q:H b with
   | none=>rfl
   | some u =>
    have e':b=a:=hA b (by rw [q]; simp)
    subst e';rw [ha] at e; cases e;have d':Data.seq vs.toArray _=Data.dict es ep:=d;cases d'
  have nsK:∀ {b:Addr}{m:Str->Option Value},s₁.heap.Ns b m->(hidT s₁.heap H).Ns b m:=fun {b m} ⟨o,es,ep,e,d,r⟩=>⟨o,es,ep,base_of e (noA e d),d,r⟩
  have hKb:K.In (hidT s₁.heap H):=fun b o e=>base_of (KX b o e) (by
   cases q:H b with
   | none=>rfl
   | some u =>
    have e':b=a:=hA b (by rw [q]; simp)
    subst e';rw [hK (by rw [q]; simp)] at e; cases e)
  have hM:Mod K mg (hidT s₁.heap H):=⟨hKb,nsK hns,⟨mb,nsK hb,hbb⟩,let ⟨mc,h1,h2⟩:=hlim; ⟨mc,nsK h1,h2⟩⟩;have e0:Env0 P w K mg (hidT s₁.heap H) callerA [] s₁ H:=⟨rfl,hM,fun b o e=>oH e,Nat.le_of_eq (oF _ _),trivial,fun b hb=>absurd (show b∈([]:List Addr) from hb) (by simp),hok,.of_eq hg⟩
  refine codeAny_mono ((F _ hKb (nsK hns)).run callerA [] s₁ H ⟨[.ref a],[]⟩ [.ref a] [.ref a] _ _ hr e0 (hbind s₁ (.ref a)) (.cons rfl .nil) (hsp H hO hS)) fun r s' h=>?_
  cases r with
  | error e=>exact (hCX H e s' h).elim
  | ok fl =>
   cases fl with
   | next=>exact False.elim h
   | brk=>exact False.elim h
   | cont=>exact False.elim h
   | ret u =>
    obtain ⟨v,H',os,bare,un,hok',r',q⟩:=h;have q':v=.bl true:=q;subst q';obtain rfl:u=Value.bool true:=r';refine ⟨rfl,OldK.of_keep fun b o e=>?_,os,bare⟩
    cases q:H b with
    | none=>exact un.keep b o e q (by intro z; exact absurd (show b∈([]:List Addr) from z) (by simp)) (by simp)
    | some u =>
     rcases hO b with z | ⟨ob,xs,z⟩
     ·rw [q] at z; cases z
     ·have z2:=un.frzs b ob _ z
      obtain ⟨e1,_⟩:=hok b _ z;obtain ⟨e2,_⟩:=hok' b _ z2;rw [e] at e1; cases e1;exact e2
 cases hk:K.lookup a with
 | some o =>
  have e:=KX a o hk;rw [ha] at e;cases e;refine core (fun _=>none) (fun _=>.inl rfl) (.inr ⟨_,vs.toArray,_,hk,rfl,rfl,rfl,by rw [zd,lenV]; exact hl,by simpa using rv⟩) (fun b u z=>by have z':(none:Option HO)=some u:=z; cases z') (fun b z=>absurd rfl z) fun z=>absurd rfl z
 | none =>
  refine core (fun b=>if b=a then some (.frz { cls:=.type "list",data:=.seq vs.toArray } (.lst (ns.map V.int))) else none) (fun b=>?_) (.inl (.inr ⟨{ cls:=.type "list",data:=.seq vs.toArray },yN rfl⟩)) (fun b u z=>?_) (fun b z=>?_) fun _=>hk
  ·by_cases hb:b=a
   ·exact .inr ⟨_,_,yN hb⟩
   ·exact .inl (yM hb)
  ·by_cases hb:b=a
   ·have z':=(yN hb).symm.trans z
    cases z';subst hb;exact ⟨ha,by rw [yS]; exact hl,vs,_,rv,ha⟩
   ·have z':=(yM hb).symm.trans z
    cases z'
  ·by_cases hb:b=a
   ·exact hb
   ·exact absurd (yM hb) z
theorem rg {l:PySem.W.OpenLaw}{n k:Nat}{q:Program}{loose:List Str}{XP:(Str->Option Value)->Heap->Prop}{YP:World->Heap->Prop}{d:DefRec}{K:Params->PySem.W.Frag}{CX:World->CXT}{sp:World->Sp}{x:Str}
  (hn:l.most=some n) (hn2:n<=sizeLine) (hdf:d.params.defaults=[]) (hr:Room k callerA)
  (hY:∀ (w:World) (h:Heap),YP w h->(K w.params).In h)
  (F:∀ (w:World) (mg:Str->Option Value) (fa:Addr) (h:Heap),(K w.params).In h->h.Ns mainGlobals mg->mg d.name=some (.ref fa) ->
   ∃ fd:FuncData,(∀ (s:Shared) (u:Value),BindsTo s fd ⟨[u],[]⟩ [(x,u)]) /\
    ∀ base:Heap,(K w.params).In base->base.Ns mainGlobals mg->FnOk l.prog w (K w.params) mg base (CX w) k fa fd [x] (sp w))
  (hsp:∀ (w:World) (H:Hp) (a:Addr) (ns:List Int),ns.length<=n->Only H->SqL (K w.params) H a (ns.map V.int)->sp w [.ref a] H (fun v _=>v=.bl true) fun _ _ _=>False)
  (hCX:∀ (w:World) (H:Hp) (s:Shared) (e:Value) (s':Shared),CX w [] H s (fun _ _ _=>False) e s'->False) :
  PySem.W.WalkO q loose XP YP l.row.toRowW d [] (fun f vs=>PySem.call f vs):=by
 refine Att.attach_call hn hdf fun w s₀ s₁ mg mb fa o pm cd doc a vs ns G Y ho hd hcd hmg hobj hints hlen hg=>?_
 have KX:=hY w _ Y;obtain ⟨fd,hb,hF⟩:=F w mg fa _ KX G.T.g hmg;exact rb KX G.T.g G.T.b G.T.builtins G.T.nolimit hg hobj hints (zy hlen hn2) hr hF hb (fun H hO hS=>hsp w H a ns hlen hO hS) fun H e s'=>hCX w H s₁ e s'
theorem rh {l:PySem.W.OpenLaw}{n k:Nat}{q:Program}{loose:List Str}{XP:(Str->Option Value)->Heap->Prop}{YP:World->Heap->Prop}{d:DefRec}{K:Params->PySem.W.Frag}{CX:CXT}{sp:PySem.W.Frag->Sp}{x:Str}
  (hn:l.most=some n) (hn2:n<=sizeLine) (hdf:d.params.defaults=[]) (hr:Room k callerA)
  (hY:∀ (w:World) (h:Heap),YP w h->(K w.params).In h)
  (F:∀ (w:World) (mg:Str->Option Value) (fa:Addr) (h:Heap),(K w.params).In h->h.Ns mainGlobals mg->mg d.name=some (.ref fa) ->
   ∃ fd:FuncData,(∀ (s:Shared) (u:Value),BindsTo s fd ⟨[u],[]⟩ [(x,u)]) /\
    ∀ base:Heap,(K w.params).In base->base.Ns mainGlobals mg->FnOk l.prog w (K w.params) mg base CX k fa fd [x] (sp (K w.params)))
  (hsp:∀ (K:PySem.W.Frag) (H:Hp) (a:Addr) (ns:List Int),ns.length<=n->Only H->SqL K H a (ns.map V.int)->sp K [.ref a] H (fun v _=>v=.bl true) fun _ _ _=>False)
  (hCX:∀ (H:Hp) (s:Shared) (e:Value) (s':Shared),CX [] H s (fun _ _ _=>False) e s'->False) :
  PySem.W.WalkO q loose XP YP l.row.toRowW d [] (fun f vs=>PySem.call f vs) :=
 rg (K:=K) (CX:=fun _=>CX) (sp:=fun w=>sp (K w.params)) hn hn2 hdf hr hY F (fun w H a ns h1 h2 h3=>hsp (K w.params) H a ns h1 h2 h3) fun _ H s e s'=>hCX H s e s'
def inClass (s:Stmt) (j:Nat):Stmt:=match s with
 | .ClassDef _ _ _ body _ _ _ _ _ _ _=>body.getD j (.Pass ⟨0,0,0,0⟩)
 | _=>.Pass ⟨0,0,0,0⟩
def defArgs (s:Stmt):Arguments:=match s with
 | .FunctionDef _ a _ _ _ _ _ _ _ _=>a
 | _=>{ posonlyargs:=[],args:=[],vararg:=none,kwonlyargs:=[],kw_defaults:=[],kwarg:=none,defaults:=[] }
def defBody (s:Stmt):List Stmt:=match s with
 | .FunctionDef _ _ b _ _ _ _ _ _ _=>b
 | _=>[]
def defScope (s:Stmt):Scope:=match s with
 | .FunctionDef _ _ _ _ _ _ sc _ _ _=>sc
 | _=>{ kind:=.function,names:=[],isGenerator:=false,isCoroutine:=false }
abbrev CX0:CXT:=fun _ _ _ _ _ _=>False
abbrev E0:XK:=fun _ _ _=>False
theorem pass0 {X:Cx}:Passes CX0 X E0:=fun _ _ _ _ _ _ _ h=>h.elim
structure Fun (K:PySem.W.Frag) (x qual:Str) (st:Stmt) (f:Addr) (fd:FuncData):Prop where
 ex:∃ (oc:Value) (od:Option Addr) (kV doc pm:Value) (an:Option Addr) (cdv ct:Value) (osl:Array (Option Value)),
  fd=PySem.W.fnOf x qual (defArgs st) (defBody st) (defScope st) .none kV doc pm an cdv ct/\K.lookup f=some ⟨oc,od,.func fd,osl⟩/\PySem.W.codeIn K cdv qual=true
 kp:PySem.W.keepIn K (.ref f)=true
section
variable {P:Program}{w:World}{K:PySem.W.Frag}{mg:Str->Option Value}{base:Heap}
theorem Fun.ok {x qual:Str}{st:Stmt}{f:Addr}{fd:FuncData}{N ps:List Str}{k:Nat}{sp:Sp} (F:Fun K x qual st f fd) (S:FnScope N ps (defScope st)) (len:∀ vs H Q E,sp vs H Q E->vs.length=ps.length)
  (hbody:∀ (cdv:Value) (A:Around) (outer:List Env) (s:Shared) (H:Hp) (vs:List V) (Q:VK) (E:XK),Room k (A.deeper (envOfC qual (defScope st) s.heap.objs.size f cdv))->sp vs H Q E ->
   ∃ t,PSs (cxOf CX0 P w K mg base N qual (defScope st) f cdv A outer s H E).nox (defBody st) t/\t { nx:=fun _ H'=>Q .non H',rt:=Q } (start N vs) H):FnOk P w K mg base CX0 (k + 1) f fd ps sp:=by
 obtain ⟨oc,od,kV,doc,pm,an,cdv,ct,osl,rfl,lk,hcd⟩:=F.ex;refine qE lk hcd S len fun A outer s H vs Q E hr hsp=>?_
 obtain ⟨t,h,q⟩:=hbody cdv A outer s H vs Q E hr hsp;exact ⟨t,h.nox,q⟩
theorem Fun.binds {x qual:Str}{st:Stmt}{f:Addr}{fd:FuncData}{ps:List Str} (F:Fun K x qual st f fd)
  (h:∀ (kV doc pm:Value) (an:Option Addr) (cdv ct:Value) (us:List Value),us.length=ps.length->bindArgs (PySem.W.fnOf x qual (defArgs st) (defBody st) (defScope st) .none kV doc pm an cdv ct) ⟨us,[]⟩=pure (ps.zip us)):Binds K fd ps []:=by
 obtain ⟨oc,od,kV,doc,pm,an,cdv,ct,osl,rfl,lk,hcd⟩:=F.ex;exact .all (h kV doc pm an cdv ct)
theorem aI {x qual:Str}{st:Stmt}{f:Addr}{oc:Value}{od an:Option Addr}{osl:Array (Option Value)}{kV doc pm cdv ct:Value} (l:K.lookup f=some ⟨oc,od,.func (PySem.W.fnOf x qual (defArgs st) (defBody st) (defScope st) .none kV doc pm an cdv ct),osl⟩)
  (c:PySem.W.codeIn K cdv qual=true) (k:PySem.W.keepIn K (.ref f)=true):Fun K x qual st f (PySem.W.fnOf x qual (defArgs st) (defBody st) (defScope st) .none kV doc pm an cdv ct):=⟨⟨oc,od,kV,doc,pm,an,cdv,ct,osl,rfl,l,c⟩,k⟩
end
theorem eV {A:Around}{k:Nat} (hr:Room k A):A.units + 1 < cLine:=AE (Nat.add_le_add_left (by decide:1<=64) _) hr.units
theorem iteF {A B:Prop} (h:B):if false=true then A else B:=by
 rw [yM zj];exact h
theorem iteT {A B:Prop} (h:A):if true=true then A else B:=by
 rw [yN rfl];exact h
theorem ite2 {c A B:Prop} [Decidable c] (h1:c->A) (h2:¬ c->B):if c then A else B:=by
 by_cases h:c
 ·rw [yN h]
  exact h1 h
 ·rw [yM h]
  exact h2 h
end L2

namespace L2
open PySem PySem.Spec PyProof.Rows
variable{kvs:List (List Key × V)}{y v:V}{u:Value}{P:Program}{w:World}{H H':Hp}{xs:List (List Key × Addr × Value)}{b a:Addr}{Q:Value->Shared->Prop}{h':Heap}{s:Shared}{pos:Pos}{X:Cx}{pins:List (Addr × Obj)}{σ:St}{trs:List (TE × TE)}
section
variable {κ:Type} [DecidableEq κ]
def valV (kvs:List (κ × V)) (k:κ):Option V:=(kvs.find? fun kv=>decide (kv.1=k)).map (·.2)
def putK (kvs:List (κ × V)) (k:κ) (v:V):List (κ × V) :=
 if (kvs.any fun kv=>decide (kv.1=k))=true then kvs.map (fun kv=>if kv.1=k then (kv.1,v) else kv) else kvs++[(k,v)]
theorem cG {p:κ × V}{r:List (κ × V)}{k:κ} (e:p.1=k):valV (p :: r) k=some p.2:=by simp [valV,AQ,e]
theorem ck {p:κ × V}{r:List (κ × V)}{k:κ} (e:¬ p.1=k):valV (p :: r) k=valV r k:=by simp [valV,AQ,e]
theorem fV (k:κ):∀ kvs:List (κ × V),(kvs.any fun kv=>decide (kv.1=k))=(valV kvs k).isSome
 | []=>rfl
 | p :: r=>by
  rw [List.any_cons]
  by_cases e:p.1=k
  ·simp only [cG e,y8 e,Bool.true_or,Option.isSome_some]
  ·rw [ck e,zv e,Bool.false_or]; exact fV k r
theorem ki (k j:κ) (y:V):∀ kvs:List (κ × V),valV (kvs.map fun kv=>if kv.1=k then (kv.1,y) else kv) j=(valV kvs j).map fun x=>if j=k then y else x
 | []=>rfl
 | p :: r=>by
  have ih:=ki k j y r;rw [zG]
  by_cases h:p.1=k
  ·rw [yN h]
   by_cases e:p.1=j
   ·rw [cG (p:=(p.1,y)) e,cG e,Option.map_some,yN (e.symm.trans h)]
   ·rw [ck (p:=(p.1,y)) e,ck e,ih]
  ·rw [yM h]
   by_cases e:p.1=j
   ·rw [cG (p:=p) e,cG e,Option.map_some,yM (fun z=>h (e.trans z))]
   ·rw [ck (p:=p) e,ck e,ih]
theorem kj (k j:κ) (y:V):∀ kvs:List (κ × V),valV kvs k=none->valV (kvs++[(k,y)]) j=if j=k then some y else valV kvs j
 | [],_=>by
  by_cases e:k=j
  ·rw [yN e.symm]; exact cG (p:=(k,y)) e
  ·rw [yM (fun z=>e z.symm)]; exact ck (p:=(k,y)) e
 | p :: r,hn=>by
  rw [List.cons_append];have hk:¬ p.1=k:=fun z=>by rw [cG z] at hn; cases hn
  rw [ck hk] at hn;have ih:=kj k j y r hn
  by_cases e:p.1=j
  ·rw [cG e,cG e,yM (fun z=>hk (e.trans z))]
  ·rw [ck e,ck e,ih]
theorem fW (kvs:List (κ × V)) (k j:κ) (y:V):valV (putK kvs k y) j=if j=k then some y else valV kvs j:=by
 unfold putK
 by_cases a:(kvs.any fun kv=>decide (kv.1=k))=true
 ·rw [yN a,ki]
  rw [fV] at a
  by_cases e:j=k
  ·obtain ⟨x,hx⟩:=Option.isSome_iff_exists.mp a
   rw [yN e,e,hx,Option.map_some,yN rfl]
  ·rw [yM e]
   cases valV kvs j with
   | none=>rfl
   | some x=>rw [Option.map_some,yM e]
 ·rw [yM a]
  refine kj k j y kvs ?_;rw [fV] at a;cases q:valV kvs k with
  | none=>rfl
  | some x=>rw [q] at a; exact (a rfl).elim
theorem eA (kvs:List (κ × V)) (k:κ) (v:V):(putK kvs k v).length<=kvs.length + 1:=by
 unfold putK
 split
 ·rw [yS]; omega
 ·rw [zk,zK,AR]; omega
theorem RelO.isSome_eq {o:Option V}{u:Option Value} (r:RelO o u):o.isSome=u.isSome:=by
 cases o with
 | none=>cases u with
  | none=>rfl
  | some _=>exact (show False from r).elim
 | some _=>cases u with
  | none=>exact (show False from r).elim
  | some _=>rfl
theorem RelO.getD {o:Option V}{u:Option Value}{d:V}{d':Value} (r:RelO o u) (rd:RelV d d'):RelV (o.getD d) (u.getD d'):=by
 cases o with
 | none=>cases u with
  | none=>exact rd
  | some _=>exact (show False from r).elim
 | some _=>cases u with
  | none=>exact (show False from r).elim
  | some _=>exact r
theorem KV.val {kvs:List (κ × V)}{vs:List (κ × Value)} (r:KV kvs vs) (k:κ):RelO (valV kvs k) (valueAt vs k):=by
 unfold KV at r
 induction r with
 | nil=>exact True.intro
 | @cons p q ps qs h t ih =>
  obtain ⟨h1,h2⟩:=h
  by_cases e:p.1=k
  ·have e':q.1=k:=h1.symm.trans e
   have b:valueAt (q :: qs) k=some q.2:=by simp [valueAt,AQ,e']
   rw [cG e,b]; exact h2
  ·have e':¬ q.1=k:=fun z=>e (h1.trans z)
   have b:valueAt (q :: qs) k=valueAt qs k:=by simp [valueAt,AQ,e']
   rw [ck e,b]; exact ih
theorem KV.any {kvs:List (κ × V)}{vs:List (κ × Value)} (r:KV kvs vs) (k:κ):(kvs.any fun kv=>decide (kv.1=k))=vs.any fun kv=>decide (kv.1=k):=by
 unfold KV at r
 induction r with
 | nil=>rfl
 | cons h t ih=>rw [List.any_cons,List.any_cons,ih,h.1]
theorem KV.repl {kvs:List (κ × V)}{vs:List (κ × Value)} (r:KV kvs vs) (k:κ) (ry:RelV y u) :
  KV (kvs.map fun kv=>if kv.1=k then (kv.1,y) else kv) (vs.map fun kv=>if kv.1=k then (kv.1,u) else kv):=by
 unfold KV at r ⊢
 induction r with
 | nil=>exact .nil
 | @cons p q ps qs h t ih =>
  rw [zG,zG];refine .cons ?_ ih;obtain ⟨h1,h2⟩:=h
  by_cases e:p.1=k
  ·rw [yN e,yN (h1.symm.trans e)]; exact ⟨h1,ry⟩
  ·rw [yM e,yM (fun z=>e (h1.trans z))]; exact ⟨h1,h2⟩
theorem KV.put {kvs:List (κ × V)}{vs:List (κ × Value)} (r:KV kvs vs) (k:κ) (ry:RelV y u):KV (putK kvs k y) (stored vs k u):=by
 unfold putK stored;rw [r.any k]
 by_cases e:(vs.any fun kv=>decide (kv.1=k))=true
 ·rw [yN e,yN e]; exact r.repl k ry
 ·rw [yM e,yM e]; exact Paired.snoc r ⟨rfl,ry⟩
theorem KV.length {kvs:List (κ × V)}{vs:List (κ × Value)} (r:KV kvs vs):kvs.length=vs.length:=Paired.length r
end
theorem cS{k:Key} (r:RelV (kV k) u):(mixKind P w).is k u=true:=by
 cases k with
 | inl i=>obtain ⟨t,e⟩:=(show ∃ t,u=Value.int i t from r); subst e; exact oC P w i t
 | inr x=>obtain ⟨t,e⟩:=(show ∃ t,u=Value.str x t from r); subst e; exact oE P w x t
theorem km:∀ {ks:List Key}{us:List Value},Vals (ks.map kV) us->ItemsAre (mixKind P w) ks us
 | [],_,r=>by rw [List.map_nil] at r; cases r; exact .nil
 | k :: ks,_,r=>by
  rw [zG] at r;cases r with
  | cons h t=>exact .cons (cS h) (km t)
abbrev KT (H:Hp):List (List Key × V)->List (List Key × Addr × Value)->Prop:=Paired fun p q=>p.1=q.1/\H q.2.1=some (.tup (p.1.map kV))/\RelV p.2 q.2.2
theorem KT.val {H:Hp} (r:KT H kvs xs) (k:List Key):RelO (valV kvs k) ((atKey xs k).map (·.2)):=by
 induction r with
 | nil=>exact True.intro
 | @cons p q ps qs h t ih =>
  obtain ⟨h1,_,h2⟩:=h
  by_cases e:p.1=k
  ·have e':q.1=k:=h1.symm.trans e
   have b:atKey (q :: qs) k=some q.2:=by simp [atKey,AQ,e']
   rw [cG e,b]; exact h2
  ·have e':¬ q.1=k:=fun z=>e (h1.trans z)
   have b:atKey (q :: qs) k=atKey qs k:=by simp [atKey,AQ,e']
   rw [ck e,b]; exact ih
theorem KT.repl (r:KT H kvs xs) (k:List Key) (ry:RelV y u) :
  KT H (kvs.map fun kv=>if kv.1=k then (kv.1,y) else kv) (xs.map (putAt k u)):=by
 induction r with
 | nil=>exact .nil
 | @cons p q ps qs h t ih =>
  rw [zG,zG];refine .cons ?_ ih;obtain ⟨h1,h2,h3⟩:=h;unfold putAt
  by_cases e:p.1=k
  ·rw [yN e,yN (h1.symm.trans e)]; exact ⟨h1,h2,ry⟩
  ·rw [yM e,yM (fun z=>e (h1.trans z))]; exact ⟨h1,h2,h3⟩
theorem KT.put (r:KT H kvs xs) (k:List Key) (hb:H b=some (.tup (k.map kV))) (ry:RelV y u) :
  KT H (putK kvs k y) (storedH xs k b u):=by
 have e:(kvs.any fun kv=>decide (kv.1=k))=(atKey xs k).isSome:=by
  rw [fV,(r.val k).isSome_eq,Option.isSome_map]
 unfold putK storedH;rw [e]
 by_cases q:(atKey xs k).isSome=true
 ·rw [yN q,yN q]; exact r.repl k ry
 ·rw [yM q,yM q]; exact Paired.snoc r ⟨rfl,hb,ry⟩
theorem KT.keeps {H:Hp} (r:KT H kvs xs) (ht:∀ b ys,H b=some (.tup ys)->H' b=some (.tup ys)):KT H' kvs xs :=
 Paired.mapP r fun _ _ z=>⟨z.1,ht _ _ z.2.1,z.2.2⟩
section
variable {P:Program}{w:World}{H:Hp}{h:Heap}{a:Addr}
theorem kq {u:HO} (ok:HOk P w H h) (e:Rd H a u):ObjOk P w H h a u:=e.ok ok
theorem dD {kvs:List (Key × V)} (ok:HOk P w H h) (e:Rd H a (.dK kvs)):kvs.length<=sizeLine/\(a == sysModules)=false/\∃ vs,KV kvs vs/\h.DictOf (mixKind P w) a vs :=
 show ObjOk P w H h a (.dK kvs) from kq ok e
theorem kx {kvs:List (Key × V)} (ok:HOk P w H h) (e:H a=some (.dK kvs)):kvs.length<=sizeLine/\(a == sysModules)=false/\∃ vs,KV kvs vs/\h.DictOf (mixKind P w) a vs:=dD ok (.inl e)
theorem eB {ks:List Key} (ok:HOk P w H h) (e:H a=some (.tup (ks.map kV))):(tupleKind (mixKind P w)).is h ks a:=by
 obtain ⟨_,its,r,o,h1,h2,n,h3⟩:=(show ObjOk P w H h a (.tup (ks.map kV)) from ok a _ e);exact ⟨o,its.toArray,n,h1,h2,h3,by simpa using km r⟩
theorem dR (ok:HOk P w H h) (e:Rd H a (.dT kvs)):kvs.length<=sizeLine/\(a == sysModules)=false /\
  ∃ xs,KT H kvs xs/\h.DictOfH (tupleKind (mixKind P w)) a xs:=by
 obtain ⟨z,y,xs,r,o,es,ep,h1,h2,h3,h4,h5⟩:=(show ObjOk P w H h a (.dT kvs) from kq ok e);refine ⟨z,y,xs,r,o,es,ep,h1,h2,h3,h4,fun x hx=>?_,h5⟩
 have all:∀ {l:List (List Key × V)}{m:List (List Key × Addr × Value)},KT H l m->∀ x∈m,(tupleKind (mixKind P w)).is h x.1 x.2.1:=by
  intro l m q
  induction q with
  | nil=>intro x hx; exact nomatch hx
  | @cons p q ps qs hq t ih =>
   intro x hx;rcases yZ.mp hx with e | hx
   ·subst e
    exact eB ok (by rw [<- hq.1]; exact hq.2.1)
   ·exact ih x hx
 exact all r x hx
theorem rj (ok:HOk P w H h) (e:H a=some (.dT kvs)):kvs.length<=sizeLine/\(a == sysModules)=false /\
  ∃ xs,KT H kvs xs/\h.DictOfH (tupleKind (mixKind P w)) a xs:=dR ok (.inl e)
end
def DGet (H:Hp) (a:Addr) (y:V) (r:Option V):Prop :=
 (∃ kvs k,Rd H a (.dK kvs)/\y=kV k/\r=valV kvs k)\/∃ kvs k b,Rd H a (.dT kvs)/\y=.ref b/\H b=some (.tup (k.map kV))/\r=valV kvs k
def DPut (H:Hp) (a:Addr) (y v:V) (H':Hp):Prop :=
 (∃ kvs k,H a=some (.dK kvs)/\y=kV k/\kvs.length < sizeLine/\H'=upd H a (.dK (putK kvs k v))) \/
 ∃ kvs k b,H a=some (.dT kvs)/\y=.ref b/\H b=some (.tup (k.map kV))/\kvs.length < sizeLine/\H'=upd H a (.dT (putK kvs k v))
theorem DGet.k{kvs:List (Key × V)}{k:Key} (e:H a=some (.dK kvs)):DGet H a (kV k) (valV kvs k):=.inl ⟨kvs,k,.inl e,rfl,rfl⟩
theorem DGet.t{k:List Key} (e:H a=some (.dT kvs)) (eb:H b=some (.tup (k.map kV))):DGet H a (.ref b) (valV kvs k):=.inr ⟨kvs,k,b,.inl e,rfl,eb,rfl⟩
theorem DPut.k{kvs:List (Key × V)}{k:Key}{v:V} (e:H a=some (.dK kvs)) (hl:kvs.length < sizeLine):DPut H a (kV k) v (upd H a (.dK (putK kvs k v))):=.inl ⟨kvs,k,e,rfl,hl,rfl⟩
theorem DPut.t{k:List Key}{v:V} (e:H a=some (.dT kvs)) (eb:H b=some (.tup (k.map kV))) (hl:kvs.length < sizeLine) :
  DPut H a (.ref b) v (upd H a (.dT (putK kvs k v))):=.inr ⟨kvs,k,b,e,rfl,eb,hl,rfl⟩
section
variable {X:Cx}{pins:List (Addr × Obj)}{σ:St}{H:Hp}{s:Shared}{a:Addr}{y v:V}{u r:Value}{o:Option V}{A:Around}{E:Value->Shared->Prop}
theorem Inv.big (I:Inv X pins σ H s):sysModules < s.heap.objs.size:=by
 have h:mainGlobals < s.heap.objs.size:=(I.mod.glob.keeps I.bk).lt;exact Ar (by decide) h
theorem rm (hu:A.units + 1 < cLine) (I:Inv X pins σ H s) (g:DGet H a y (some v)) (ry:RelV y u) (h:∀ w' s',Inv X pins σ H s'->RelV v w'->Q w' s') :
  wpAny (model X.prog X.w) A (getItem (.ref a) u) Q E s:=by
 rcases g with ⟨kvs,k,e,ey,l⟩ | ⟨kvs,k,b,e,ey,eb,l⟩
 ·subst ey
  obtain ⟨z,hd,vs,rel,dd⟩:=dD I.hok e;obtain ⟨w',hw,rw'⟩:=RelO.some_of (v:=v) (o:=valueAt vs k) (by rw [l]; exact rel.val k)
  exact wpAny_getItem_of (cS ry) dd.mapOf hw (h w' _ (I.tok _) rw')
 ·subst ey
  cases (show u=Value.ref b from ry);obtain ⟨z,hd,xs,rel,dd⟩:=dR I.hok e;obtain ⟨w',hw,rw'⟩:=RelO.some_of (v:=v) (o:=(atKey xs k).map (·.2)) (by rw [l]; exact rel.val k)
  obtain ⟨p,hp,hp2⟩:=zt.mp hw;refine wpAny_getItem_heap (tupleKind_room_in1 hu) (eB I.hok eb) dd hp ?_;rw [hp2];exact h w' _ (I.tok _) rw'
theorem d_in (hu:A.units + 1 < cLine) (I:Inv X pins σ H s) (g:DGet H a y o) (ry:RelV y u) (h:∀ s',Inv X pins σ H s'->Q (.bool o.isSome) s') :
  wpAny (model X.prog X.w) A (compareOp .In u (.ref a)) Q E s:=by
 rcases g with ⟨kvs,k,e,ey,l⟩ | ⟨kvs,k,b,e,ey,eb,l⟩
 ·subst ey
  obtain ⟨z,hd,vs,rel,dd⟩:=dD I.hok e;refine wpAny_in_of (cS ry) hd dd.mapOf ?_;rw [<- (rel.val k).isSome_eq,<- l];exact h _ (I.tok _)
 ·subst ey
  cases (show u=Value.ref b from ry);obtain ⟨z,hd,xs,rel,dd⟩:=dR I.hok e;refine wpAny_in_heap (tupleKind_room_in1 hu) (eB I.hok eb) hd dd ?_;have q:=(rel.val k).isSome_eq;rw [Option.isSome_map] at q;rw [<- q,<- l];exact h _ (I.tok _)
theorem rq (hu:A.units + 1 < cLine) (I:Inv X pins σ H s) (g:DGet H a y o) (ry:RelV y u) (h:∀ s',Inv X pins σ H s'->Q (.bool (!o.isSome)) s') :
  wpAny (model X.prog X.w) A (compareOp .NotIn u (.ref a)) Q E s:=by
 rcases g with ⟨kvs,k,e,ey,l⟩ | ⟨kvs,k,b,e,ey,eb,l⟩
 ·subst ey
  obtain ⟨z,hd,vs,rel,dd⟩:=dD I.hok e;refine wpAny_notIn_of (cS ry) hd dd.mapOf ?_;rw [<- (rel.val k).isSome_eq,<- l];exact h _ (I.tok _)
 ·subst ey
  cases (show u=Value.ref b from ry);obtain ⟨z,hd,xs,rel,dd⟩:=dR I.hok e;refine wpAny_notIn_heap (tupleKind_room_in1 hu) (eB I.hok eb) hd dd ?_;have q:=(rel.val k).isSome_eq;rw [Option.isSome_map] at q;rw [<- q,<- l];exact h _ (I.tok _)
theorem ik{t':Nat}{ob:HO} (I:Inv X pins σ H s) (mu:Mut (H a)) (hs:Heap.SameBut a s.heap h') (he:∃ q,h'.get? a=some q) (new:ObjOk X.prog X.w (upd H a ob) h' a ob) :
  Inv X pins σ (upd H a ob) { s with heap:=h',toks:=t' } :=
 I.write (x:=a) (e:=a) mu (.inl rfl) (fun b q hb z=>(hs.2 b hb).trans z) he new
theorem ky{H':Hp}{kvs:List (Key × V)}{vs:List (Key × Value)} (z:kvs.length<=sizeLine) (hd:(a == sysModules)=false) (rel:KV kvs vs) (dd:h'.DictOf (mixKind P w) a vs) :
  ObjOk P w H' h' a (.dK kvs):=⟨z,hd,vs,rel,dd⟩
theorem rA{Q:Unit->Shared->Prop} (hu:A.units + 1 < cLine) (I:Inv X pins σ H s) (g:DPut H a y v H') (ry:RelV y u) (rv:RelV v r) (h:∀ s',Inv X pins σ H' s'->Q () s') :
  wpAny (model X.prog X.w) A (setItem (.ref a) u r) Q E s:=by
 rcases g with ⟨kvs,k,e,ey,l,eH⟩ | ⟨kvs,k,b,e,ey,eb,l,eH⟩
 ·subst ey eH
  obtain ⟨z,hd,vs,rel,dd⟩:=kx I.hok e;have hz:vs.length<=sizeLine:=by rw [<- rel.length]; exact z
  have hl:(putK kvs k v).length<=sizeLine:=by have:=eA kvs k v; omega
  refine wpAny_setItem_pairs (hsz:=hz) (cS ry) dd fun h' dd' hs=>h _ ?_
  have he:∃ q,h'.get? a=some q:=let ⟨q,_,_,hq,_⟩:=dd'; ⟨q,hq⟩;exact ik I (by rw [e]; exact True.intro) hs he (ky hl hd (rel.put k rv) dd')
 ·subst ey eH
  cases (show u=Value.ref b from ry);obtain ⟨z,hd,xs,rel,dd⟩:=rj I.hok e;have hz:xs.length<=sizeLine:=by rw [<- Paired.length rel]; exact z
  have hl:(putK kvs k v).length<=sizeLine:=by have:=eA kvs k v; omega
  refine wpAny_setItem_heap (hsz:=hz) (tupleKind_room_in1 hu) (eB I.hok eb) dd fun h' dd' hs=>h _ ?_
  obtain ⟨q,es,ep,hq,h2,h3,h4,_,h5⟩:=dd';refine ik I (by rw [e]; exact True.intro) hs ⟨q,hq⟩ ⟨hl,hd,_,(rel.put k eb rv).keeps fun c ys ec=>?_,q,es,ep,hq,h2,h3,h4,h5⟩
  rw [aR (aV ec e (fun z=>nomatch z))]
  exact ec
end
def NoSl (i:Expr):Prop:=∀ ov iv,subscripted i false ov iv=operate [ov,iv] (getItem ov iv)
theorem kz {prog:Program}{w:World}{A:Around}{E:Value->Shared->Prop}{s:Shared}{env:Env}{value slice:Expr}{pos:Pos}{T id:String}{Q:Value->Shared->Prop}
  (hl:typeLookup (.type T) "__getitem__" = pure (some (.builtin id))) (hs:NoSl slice)
  (h:wpAny (model prog w) A (eval value env) (fun o s₁=>wpAny (model prog w) A (eval slice env) (fun i s₂=>s₂.TypeIs o T/\wpAny (model prog w) A (getItem o i) Q E s₂) E s₁) E s) :
  wpAny (model prog w) A (eval (.Subscript value slice pos) env) Q E s:=by
 refine Subscript_ (zA h (fun o s₁ h₁=>zA h₁ (fun i s₂ h₂=>?_) fun _ _ x=>x) fun _ _ x=>x)
 obtain ⟨hT,h₂⟩:=h₂;unfold subscriptTail;refine yL ?_;rw [getitemInPython_of_ne hT.not_modules];refine yL (wpAny_specialOf hT hl ?_);have fin:wpAny (model prog w) A (subscripted slice false o i) (fun r s₃=>wpAny (model prog w) A (letTemporaryGo value o r >>= fun _=>pure r) Q E s₃) E s₂:=by
  rw [hs o i];exact wpAny_operating (zA h₂ (fun r s₃ h₃=>yL (wpAny_letTemporaryGo (yQ h₃))) fun _ _ x=>x)
 first
  | exact yQ (yL fin)
  | exact yL (yQ (yL fin))
  | exact yL fin
theorem rB {X:Cx}{pins:List (Addr × Obj)}{σ:St}{H:Hp}{y:V}{o:Option V} (I:Inv X pins σ H s) (g:DGet H a y o):s.TypeIs (.ref a) "dict" := by
 rcases g with ⟨kvs,k,e,_,_⟩ | ⟨kvs,k,b,e,_,_,_⟩
 ·obtain ⟨_,_,vs,_,dd⟩:=dD I.hok e
  exact dd.typeIs
 ·obtain ⟨_,_,xs,_,dd⟩:=dR I.hok e
  exact dd.typeIs
def tDGet (td ty:TE):TE:=fun σ H Q=>td σ H fun x H1=>ty σ H1 fun y H2=>∃ a v,x=.ref a/\DGet H2 a y (some v)/\Q v H2
def tDIn (ty td:TE):TE:=fun σ H Q=>ty σ H fun y H1=>td σ H1 fun x H2=>∃ a o,x=.ref a/\DGet H2 a y o/\Q (.bl o.isSome) H2
def tDNotIn (ty td:TE):TE:=fun σ H Q=>ty σ H fun y H1=>td σ H1 fun x H2=>∃ a o,x=.ref a/\DGet H2 a y o/\Q (.bl (!o.isSome)) H2
def sDPut (td ty tv:TE):TS:=fun D σ H=>tv σ H fun v H1=>td σ H1 fun x H2=>ty σ H2 fun y H3=>∃ a H4,x=.ref a/\DPut H3 a y v H4/\D.nx σ H4
section
variable {X:Cx}{o i e value:Expr}{pos pos' tpos:Pos}{td ty tv:TE}
theorem rC (hu:X.A.units + 1 < cLine) (ho:PE X o td) (hi:PE X i ty) (hs:NoSl i):PE X (.Subscript o i pos) (tDGet td ty):=by
 intro pins s σ H Q I h;refine kz PySem.F.slot_dict_getitem.lookup hs (thn (ho pins s σ H _ I h) fun u s1 ⟨x,H1,I1,rx,q1⟩=>thn (hi pins s1 σ H1 _ I1 q1) fun iv s2 ⟨y,H2,I2,ry,a,v,ex,g,q2⟩=>?_)
 subst ex;obtain rfl:u=Value.ref a:=rx;exact ⟨rB I2 g,rm hu I2 g ry fun w' s3 I3 rw'=>⟨v,H2,I3,rw',q2⟩⟩
theorem rD (hu:X.A.units + 1 < cLine) (hi:PE X i ty) (ho:PE X o td):PC X .In i o (tDIn ty td):=by
 intro pins s σ H Q I h;refine thn (hi pins s σ H _ I h) fun iv s1 ⟨y,H1,I1,ry,q1⟩=>thn (ho pins s1 σ H1 _ I1 q1) fun u s2 ⟨x,H2,I2,rx,a,ov,ex,g,q2⟩=>?_
 subst ex;obtain rfl:u=Value.ref a:=rx;exact d_in hu I2 g ry fun s3 I3=>⟨.bl ov.isSome,H2,I3,rfl,q2⟩
theorem rE (hu:X.A.units + 1 < cLine) (hi:PE X i ty) (ho:PE X o td):PC X .NotIn i o (tDNotIn ty td):=by
 intro pins s σ H Q I h;refine thn (hi pins s σ H _ I h) fun iv s1 ⟨y,H1,I1,ry,q1⟩=>thn (ho pins s1 σ H1 _ I1 q1) fun u s2 ⟨x,H2,I2,rx,a,ov,ex,g,q2⟩=>?_
 subst ex;obtain rfl:u=Value.ref a:=rx;exact rq hu I2 g ry fun s3 I3=>⟨.bl (!ov.isSome),H2,I3,rfl,q2⟩
theorem rF (hu:X.A.units + 1 < cLine) (ho:PE X o td) (hi:PE X i ty) (hv:PE X value tv) (hs:swapsWith value (some (.Subscript o i pos')) pos.line X.env=pure false) :
  PS X (.Assign [.Subscript o i pos'] value pos) (sDPut td ty tv):=by
 intro pins s σ H D I h;refine wpAny_Assign_Subscript (thn (hv pins s σ H _ I h) fun r s1 ⟨v,H1,I1,rv,q1⟩=>thn (ho pins s1 σ H1 _ I1 q1) fun u s2 ⟨x,H2,I2,rx,q2⟩=>thn (hi pins s2 σ H2 _ I2 q2) fun iv s3 ⟨y,H3,I3,ry,a,H4,ex,g,q3⟩=>?_) hs
 subst ex;obtain rfl:u=Value.ref a:=rx;exact rA hu I3 g ry rv fun s4 I4=>⟨σ,H4,I4,q3⟩
end
theorem kA (h:Heap) (hb:sysModules < h.objs.size):ObjOk P w H (h.push { cls:=.type "dict",data:=.dict #[] }) h.objs.size (.dK []) :=
 ⟨zZ _,Af.mpr (yV (y9 hb)),[],.nil,Heap.DictOf.new h⟩
theorem rG (h:Heap) (hb:sysModules < h.objs.size):ObjOk P w H (h.push { cls:=.type "dict",data:=.dict #[] }) h.objs.size (.dT []) :=
 ⟨zZ _,Af.mpr (yV (y9 hb)),[],.nil,_,#[],0,zq _ rfl,⟨rfl,rfl,rfl⟩,rfl,rfl,List.nodup_nil⟩
def tDNewK:TE:=fun _ H Q=>∀ p,H p=none->Q (.ref p) (upd H p (.dK []))
def tDNewT:TE:=fun _ H Q=>∀ p,H p=none->Q (.ref p) (upd H p (.dT []))
section
variable {X:Cx}{pos:Pos}
theorem rH:PE X (.Dict [] [] pos) tDNewK:=fun pins s σ H Q I h =>
 wpAny_Dict_empty ⟨.ref s.heap.objs.size,_,I.laid (a:=s.heap.objs.size) (o:=.dK []) (t':=s.toks) (fun _ _ q=>yW _ q) (yP _) (kA s.heap I.big),rfl,h _ (I.hok.fresh (yP _))⟩
theorem rJ:PE X (.Dict [] [] pos) tDNewT:=fun pins s σ H Q I h =>
 wpAny_Dict_empty ⟨.ref s.heap.objs.size,_,I.laid (a:=s.heap.objs.size) (o:=.dT []) (t':=s.toks) (fun _ _ q=>yW _ q) (yP _) (rG s.heap I.big),rfl,h _ (I.hok.fresh (yP _))⟩
end
def tPairs:List (TE × TE)->St->Hp->(List (V × V)->Hp->Prop)->Prop
 | [],_,H,Q=>Q [] H
 | (tk,tv) :: r,σ,H,Q=>tk σ H fun x H1=>tv σ H1 fun y H2=>tPairs r σ H2 fun ps H3=>Q ((x,y) :: ps) H3
abbrev VV:List (V × V)->List (Value × Value)->Prop:=Paired fun p q=>RelV p.1 q.1/\RelV p.2 q.2
def PPs (X:Cx) (pos:Pos) (keys:List (Option Expr)) (values:List Expr) (trs:List (TE × TE)):Prop :=
 ∀ (pins:List (Addr × Obj)) (s:Shared) (σ:St) (H:Hp) (Q:List (V × V)->Hp->Prop),Inv X pins σ H s->tPairs trs σ H Q ->
  wpAny (model X.prog X.w) X.A (evalPairs (pairTrees keys values X.env pos)) (fun vs s'=>∃ ps H',Inv X pins σ H' s'/\VV ps vs/\Q ps H') X.xe s
theorem rK:PPs X pos [] [] []:=fun pins s σ H Q I h=>pairTrees_nil_walk ⟨[],H,I,.nil,h⟩
theorem rL{k v:Expr}{ks:List (Option Expr)}{vs:List Expr}{tk tv:TE} (hk:PE X k tk) (hv:PE X v tv) (hr:PPs X pos ks vs trs) :
  PPs X pos (some k :: ks) (v :: vs) ((tk,tv) :: trs):=fun pins s σ H Q I h =>
 pairTrees_cons_walk (thn (hk pins s σ H _ I h) fun u s1 ⟨x,H1,I1,rx,q1⟩=>thn (hv pins s1 σ H1 _ I1 q1) fun w2 s2 ⟨y,H2,I2,ry,q2⟩ =>
  thn (hr pins s2 σ H2 _ I2 q2) fun ws s3 ⟨ps,H3,I3,rel,q3⟩=>⟨(x,y) :: ps,H3,I3,.cons ⟨rx,ry⟩ rel,q3⟩)
def mergeK (kvs more:List (Key × V)):List (Key × V):=more.foldl (fun acc kv=>putK acc kv.1 kv.2) kvs
theorem KV.merge:∀ {more:List (Key × V)}{rs:List (Key × Value)}{kvs:List (Key × V)}{vs:List (Key × Value)},KV more rs->KV kvs vs->KV (mergeK kvs more) (merged vs rs):=by
 intro more rs kvs vs r;unfold KV at r
 induction r generalizing kvs vs with
 | nil=>intro q; exact q
 | @cons p q ps qs h t ih =>
  intro r0;have e:KV (putK kvs p.1 p.2) (stored vs q.1 q.2):=by
   have:=r0.put p.1 h.2;rw [<- h.1]; exact this
  exact ih e
theorem kB:∀ (more kvs:List (Key × V)),(mergeK kvs more).length<=kvs.length + more.length
 | [],kvs=>by show kvs.length<=kvs.length + 0; omega
 | p :: r,kvs=>by
  have h1:=kB r (putK kvs p.1 p.2);have h2:=eA kvs p.1 p.2;show (mergeK (putK kvs p.1 p.2) r).length<=_;rw [zK]; omega
theorem kC {P:Program}{w:World}:∀ {kvs:List (Key × V)}{ws:List (Value × Value)},VV (kvs.map fun kv=>(kV kv.1,kv.2)) ws->∃ rs,Carries (mixKind P w) ws rs/\KV kvs rs
 | [],_,r=>by rw [List.map_nil] at r; cases r; exact ⟨[],True.intro,.nil⟩
 | p :: kvs,_,r=>by
  rw [zG] at r;cases r with
  | @cons a b as bs h t =>
   obtain ⟨rs,c,q⟩:=kC (P:=P) (w:=w) t;obtain ⟨b1,b2⟩:=b;exact ⟨(p.1,b2) :: rs,⟨cS h.1,rfl,c⟩,.cons ⟨rfl,h.2⟩ q⟩
def tDisp (trs:List (TE × TE)):TE:=fun σ H Q=>∀ p,H p=none->tPairs trs σ (upd H p (.dK [])) fun ps H2=>H2 p=some (.dK [])/\∃ kvs:List (Key × V),ps=kvs.map (fun kv=>(kV kv.1,kv.2))/\kvs.length<=15/\Q (.ref p) (upd H2 p (.dK (mergeK [] kvs)))
theorem rM{keys:List (Option Expr)}{values:List Expr} (h:PPs X pos keys values trs) (hall:keys.all (·.isSome)=true) (hl:keys.length=values.length) (h0:keys≠[])
  (h15:keys.length<=15):PE X (.Dict keys values pos) (tDisp trs):=by
 intro pins s σ H Q I q;have hn:=I.hok.fresh (yP s.heap.objs.size);have I1:=I.laid (a:=s.heap.objs.size) (o:=.dK []) (h':=s.heap.push { cls:=.type "dict",data:=.dict #[] }) (t':=s.toks) (fun _ _ q=>yW _ q) (yP _) (kA s.heap I.big)
 refine wpAny_Dict_walk (knd:=mixKind X.prog X.w) hall hl h0 h15 (thn (h pins _ σ _ _ I1 (q _ hn)) fun ws s2 ⟨ps,H2,I2,rel,e,kvs,ep,lk,q2⟩=>?_)
 subst ep;obtain ⟨rs,c,rk⟩:=kC (P:=X.prog) (w:=X.w) rel;obtain ⟨z,hd,vs0,r0,dd⟩:=kx I2.hok e;cases r0;refine ⟨rs,c,dd,fun h' dd' hs=>⟨.ref s.heap.objs.size,_,?_,rfl,q2⟩⟩
 have hz:(mergeK [] kvs).length<=sizeLine:=by
  have h1:=kB kvs [];rw [AR] at h1;rw [zf]; omega
 have he:∃ q,h'.get? s.heap.objs.size=some q:=let ⟨q,_,_,hq,_⟩:=dd'; ⟨q,hq⟩;exact ik I2 (by rw [e]; exact True.intro) hs he (ky hz hd (rk.merge .nil) dd')
structure M2 (X:Cx) (o:Expr) (m:Str) (apos:Pos) (e f:Expr) (cpos:Pos):Prop where
 base:attributeBase o m X.env (eval o X.env)=eval o X.env
 few:((backTo cpos (starEach [e,f] X.env)).all (fun x=>!x.1) && (backToKw cpos (keywordEach [] X.env)).all (fun x=>x.1.isSome)
  && decide (([e,f]:List Expr).length + ([]:List Keyword).length + (if ([]:List Keyword).isEmpty then 0 else 1) < 30))=true
 line:(apos.endLine == cpos.line)=true
 trees:backTo cpos (starEach [e,f] X.env)=[(false,eval e X.env),(false,eval f X.env)]
def IsD (H:Hp) (a:Addr):Prop:=(∃ kvs,Rd H a (.dK kvs))\/∃ kvs,Rd H a (.dT kvs)
theorem rN (I:Inv X pins σ H s) (d:IsD H a) :
  s.TypeIs (.ref a) "dict" /\ (∀ b,Value.ref a=.ref b->∃ ob,s.heap.get? b=some ob/\ob.dict=none)/\(a == sysModules)=false:=by
 rcases d with ⟨kvs,e⟩ | ⟨kvs,e⟩
 ·obtain ⟨_,hd,vs,_,dd⟩:=dD I.hok e
  refine ⟨dd.typeIs,fun b q=>?_,hd⟩
  cases q;obtain ⟨ob,_,_,h1,h2,_⟩:=dd;exact ⟨ob,h1,h2.2.1⟩
 ·obtain ⟨_,hd,xs,_,dd⟩:=dR I.hok e
  refine ⟨dd.typeIs,fun b q=>?_,hd⟩
  cases q;obtain ⟨ob,_,_,h1,h2,_⟩:=dd;exact ⟨ob,h1,h2.2.1⟩
section
variable {X:Cx}{pins:List (Addr × Obj)}{σ:St}{H:Hp}{s:Shared}{a:Addr}{y d:V}{u r:Value}{o:Option V}{A:Around}{E:Value->Shared->Prop}
theorem rO (hu:A.units + 1 < cLine) (I:Inv X pins σ H s) (g:DGet H a y o) (ry:RelV y u) (rd:RelV d r) (h:∀ w' s',Inv X pins σ H s'->RelV (o.getD d) w'->Q w' s') :
  wpAny (model X.prog X.w) A (call (.builtin "dict.get") [.ref a,u,r]) Q E s:=by
 rcases g with ⟨kvs,k,e,ey,l⟩ | ⟨kvs,k,b,e,ey,eb,l⟩
 ·subst ey
  obtain ⟨z,hd,vs,rel,dd⟩:=dD I.hok e;refine call_meetsIn PySem.F.slot_dict_get dd.typeIs PySem.F.entry_dict_get (PySem.F.args_dict_get_3 _ _ _) (meets_dict_get_default (mixKind X.prog X.w) a (cS ry) hd r) ⟨_,dd.mapOf,h _ _ (I.tok _) ?_⟩;rw [l];exact (rel.val k).getD rd
 ·subst ey
  cases (show u=Value.ref b from ry);obtain ⟨z,hd,xs,rel,dd⟩:=dR I.hok e;refine call_meetsIn PySem.F.slot_dict_get dd.typeIs PySem.F.entry_dict_get (PySem.F.args_dict_get_3 _ _ _) (meetsH_dict_get_default (tupleKind (mixKind X.prog X.w)) a b hd r) ⟨tupleKind_room_in1 hu,k,xs,eB I.hok eb,dd,h _ _ (I.tok _) ?_⟩;rw [l];exact (rel.val k).getD rd
end
def tDGet2 (td ty tx:TE):TE:=fun σ H Q=>td σ H fun x H1=>∃ a,x=.ref a/\IsD H1 a/\ty σ H1 fun y H2=>tx σ H2 fun z H3=>∃ o,DGet H3 a y o/\Q (o.getD z) H3
section
variable {X:Cx}{o e f:Expr}{apos cpos:Pos}{td ty tx:TE}
theorem rP (hu:X.A.units + 1 < cLine) (ho:PE X o td) (he:PE X e ty) (hf:PE X f tx) (m:M2 X o "get" apos e f cpos):PE X (.Call (.Attribute o "get" apos) [e,f] [] cpos) (tDGet2 td ty tx):=by
 intro pins s σ H Q I h;refine wpAny_Call_method m.base m.few m.line PySem.F.plainAttrs_dict PySem.F.slot_dict_get PySem.F.type_dict_get (thn (ho pins s σ H _ I h) fun u s1 ⟨x,H1,I1,rx,a,ex,d,q1⟩=>?_)
 subst ex;obtain rfl:u=Value.ref a:=rx;obtain ⟨t1,t2,_⟩:=rN I1 d;refine ⟨t1,t2,?_⟩;rw [m.trees];refine Calls.callWith_builtin rfl (Calls.evalArgs_plain (Calls.spliced_cons (thn (he pins s1 σ H1 _ I1 q1) fun iv s2 ⟨y,H2,I2,ry,q2⟩ =>
  Calls.spliced_cons (thn (hf pins s2 σ H2 _ I2 q2) fun fv s3 ⟨z,H3,I3,rz,ov,g,q3⟩=>Calls.spliced_nil ?_))))
 exact rO hu I3 g ry rz fun w' s4 I4 rw'=>⟨_,H3,I4,rw',q3⟩
end
end L2

namespace L2
open PySem PySem.Spec PyProof.Rows
variable{K:PySem.W.Frag}{X:Cx}{W:List Addr}{H H':Hp}{b a q:Addr}{o u:HO}{ns:List Int}{xs:List V}{g:TG}{tb:TS}{D:Ends}{σ:St}
structure DefOk (P:Program) (w:World) (K:PySem.W.Frag) (mg:Str->Option Value) (base:Heap) (CX:CXT) (k:Nat) (x:Str) (ps:List Str) (sp:Sp):Prop where
 ex:∃ (f:Addr) (fd:FuncData),FnOk P w K mg base CX k f fd ps sp/\Binds K fd ps []/\PySem.W.keepIn K (.ref f)=true/\mg x=some (.ref f)
theorem DefOk.mono {P:Program}{w:World}{mg:Str->Option Value}{base:Heap}{CX:CXT}{j k:Nat}{x:Str}{ps:List Str}{sp:Sp} (D:DefOk P w K mg base CX j x ps sp) (h:j<=k):DefOk P w K mg base CX k x ps sp:=by
 obtain ⟨f,fd,F,b⟩:=D.ex;exact ⟨f,fd,F.mono h,b⟩
section
variable {X:Cx}{CX:CXT}{k:Nat}{ps:List Str}{sp:Sp}{E:XK}{x:Str}{p pos:Pos}{e:Expr}{es:List Expr}{t:TA}
theorem rQ (D:DefOk X.prog X.w X.K X.mg X.base CX k x ps sp) (hr:Room k X.A) (hg:Gl X x) (hx:Passes CX X E) (ha:PA X (e :: es) t) (hdb:(x == ("__debug__" : Str))=false:=by decide)
  (he:starEach (e :: es) X.env=(false,eval e X.env) :: starEach es X.env:=by rfl) (hpl:(backTo pos (starEach es X.env)).any (·.1)=false:=by rfl) :
  PE X (.Call (.Name x p) (e :: es) [] pos) (tCall sp [] E t):=by
 obtain ⟨f,fd,F,b,kp,m⟩:=D.ex;exact qu F hr hg m kp b .nil hx ha hdb he hpl
end
def CDivW (_ j:Int):Prop:=0 < j/\j < 2 ^ 64
theorem aZ:OpR X (binaryOp .FloorDiv) (rI CDivW fun i j=>.int (i / j)):=opI fun i j _ _ _ _ _ hc q=>by
 have h1:(0:Int) < j:=hc.1;have h2:j < 2 ^ 64:=hc.2;have h3:j.natAbs.log2 < 64:=(Nat.log2_lt (by omega)).mpr (by omega)
 exact floordiv_int (by omega) (by rw [Int.fdiv_eq_ediv_of_nonneg i (by omega)]; exact q) (.inl (PyProof.noPylong_of_log2 (by omega)))
def Ch (W:List Addr) (H H':Hp):Prop:=∀ b o,H b=some o->b ∉ W->H' b=some o
theorem Ch.refl (W:List Addr) (H:Hp):Ch W H H:=fun _ _ h _=>h
theorem Ch.trans{H1 H2:Hp} (a:Ch W H H1) (b:Ch W H1 H2):Ch W H H2:=fun c o h n=>b c o (a c o h n) n
theorem Ch.get {W:List Addr}{H:Hp} (c:Ch W H H') (h:H b=some o) (n:b ∉ W):H' b=some o:=c b o h n
theorem Ch.mono {W W':List Addr} (c:Ch W H H') (h:∀ b∈W,b∈W'):Ch W' H H':=fun b o q n=>c b o q fun z=>n (h b z)
theorem Ch.wk {W:List Addr} (c:Ch [] H H'):Ch W H H':=c.mono fun b h=>nomatch h
theorem Ch.new {W:List Addr}{p:Addr} (h:H p=none) (o:HO):Ch W H (upd H p o):=fun b u q _=>by rw [aR (aY q h)]; exact q
theorem Ch.put{p:Addr}{o:HO}:Ch [p] H (upd H p o):=fun b u q n=>by rw [aR (fun z=>n (by simp [z]))]; exact q
def Scr (K:PySem.W.Frag) (H:Hp) (a:Addr) (ns:List Int):Prop :=
 ns.length<=63/\((∃ o,H a=some (.frz o (.lst (ns.map V.int)))) \/
  ∃ (o:Obj) (its:Array Value) (n:Nat),K.lookup a=some o/\o.cls=.type "list" /\ o.dict=none/\o.data=.seq its n/\its.size<=sizeLine/\Vals (ns.map V.int) its.toList)
theorem Scr.sq (S:Scr K H a ns):SqL K H a (ns.map V.int):=by
 rcases S.2 with ⟨o,h⟩ | h
 ·exact .inl (.inr ⟨o,h⟩)
 ·exact .inr h
theorem Scr.ch{H:Hp}{b:Addr}{xs:List V} (S:Scr K H a ns) (hb:H b=some (.lst xs)) (c:Ch [b] H H'):Scr K H' a ns:=by
 refine ⟨S.1,?_⟩;rcases S.2 with ⟨o,h⟩ | h
 ·exact .inl ⟨o,c.get h (by
   intro z;have e:a=b:=by simpa using z
   subst e;rw [h] at hb;cases hb)⟩
 ·exact .inr h
theorem Scr.same{H:Hp} (S:Scr K H a ns) (c:Ch [] H H'):Scr K H' a ns:=by
 refine ⟨S.1,?_⟩;rcases S.2 with ⟨o,h⟩ | h
 ·exact .inl ⟨o,c.get h (by simp)⟩
 ·exact .inr h
theorem Scr.of (h:SqL K H a (ns.map V.int)) (hl:ns.length<=63) (hO:Only H):Scr K H a ns:=by
 refine ⟨hl,?_⟩;rcases h with (h | ⟨o,h⟩) | h
 ·rcases hO a with z | ⟨o,xs,z⟩
  ·rw [h] at z; cases z
  ·rw [h] at z; cases z
 ·exact .inl ⟨o,h⟩
 ·exact .inr h
theorem aA {H:Hp}{p:Addr}{o u:HO} (hq:H q=none) (h:H p=some o):upd H q u p=some o:=by rw [aR (aY h hq)]; exact h
theorem aJ{p:Addr} (n:p≠q) (h:H p=some o):upd H q u p=some o:=by rw [aR n]; exact h
structure Loop (J:It) (g:TG) (tb:TS) (D:Ends) (σ:St) (H:Hp):Prop where
 ex:∃ W:Nat->Nat->St->Hp->Prop,(∃ m,W 0 m σ H)/\∀ i m σ H,W i m σ H ->
  (J.stop i H/\D.nx σ H)\/(J.go i H/\∃ N:St->Hp->Prop,(∀ σ' H',N σ' H'->∃ m',m' < m/\W (i + 1) m' σ' H')/\∀ x H',J.yld i H x H'->g x σ H' fun σ2 H2=>tb { D with nx:=N,ct:=N,bk:=D.nx } σ2 H2)
def tLoop (wi:TI) (g:TG) (tb:TS):TS:=fun D σ H=>wi σ H fun J H1=>Loop J g tb D σ H1
theorem rR{tg iter:Expr}{body:List Stmt}{wi:TI}{pos:Pos} (hp:PassesOwn (model X.prog X.w) X.A X.env X.xe) (hc:X.calm=true) (hi:PI X tg iter wi) (hg:PG X tg g) (hb:PSs X body tb)
  (hs:∀ x,foldedSetIterable iter X.env x=pure x:=by intro _; rfl):PS X (.For tg iter body [] pos) (tLoop wi g tb):=by
 have hi':PI X tg iter (fun σ H R=>∃ R0:It->Hp->Prop,wi σ H R0/\∀ J H1,R0 J H1->R J H1):=by
  intro pins s σ H R I ⟨R0,h,m⟩;refine thn (hi pins s σ H _ I h) fun v s1 h1=>thn h1 fun itv s2 h2=>?_
  obtain ⟨it,fp,tn,J,H2,e,I2,T,st2,f2,r⟩:=h2;exact ⟨it,fp,tn,J,H2,e,I2,T,st2,f2,m _ _ r⟩
 intro pins s σ H D I h;exact pP hp hc hi' hg hb hs pins s σ H D I ⟨_,h,fun J H1 l=>l.ex⟩
theorem fX{xs:List V}{g:TG}{tb:TS}{D:Ends} (Pv:Nat->St->Hp->Prop) (h0:Pv 0 σ H) (hl:∀ i σ H,i<=xs.length->Pv i σ H->SqL K H a xs)
  (hs:∀ i x σ H,xs[i]?=some x->Pv i σ H->g x σ H fun σ2 H2=>tb { D with nx:=Pv (i + 1),ct:=Pv (i + 1),bk:=D.nx } σ2 H2) (hd:∀ σ H,Pv xs.length σ H->D.nx σ H):Loop (Itl K a) g tb D σ H:=⟨pQ Pv h0 hl hs hd⟩
theorem rS{xs:List V}{g:TG}{tb:TS}{D:Ends} (Pv:Nat->St->Hp->Prop) (h0:Pv 0 σ H) (hl:∀ i σ H,i<=xs.length->Pv i σ H->SqT K H a xs)
  (hs:∀ i x σ H,xs[i]?=some x->Pv i σ H->g x σ H fun σ2 H2=>tb { D with nx:=Pv (i + 1),ct:=Pv (i + 1),bk:=D.nx } σ2 H2) (hd:∀ σ H,Pv xs.length σ H->D.nx σ H):Loop (Itt K a) g tb D σ H:=⟨pR Pv h0 hl hs hd⟩
theorem dj {lo:Int}{n:Nat}{g:TG}{tb:TS}{D:Ends} (Pv:Nat->St->Hp->Prop) (h0:Pv 0 σ H)
  (hs:∀ i σ H,i < n->Pv i σ H->g (.int (lo + i)) σ H fun σ2 H2=>tb { D with nx:=Pv (i + 1),ct:=Pv (i + 1),bk:=D.nx } σ2 H2) (hd:∀ σ H,Pv n σ H->D.nx σ H):Loop (Itr lo n) g tb D σ H:=⟨pS Pv h0 hs hd⟩
structure Cut (t u:TS) (D:Ends) (σ:St) (H:Hp):Prop where
 ex:∃ P:St->Hp->Prop,t { D with nx:=P } σ H/\∀ σ' H',P σ' H'->u D σ' H'
def tCut (t u:TS):TS:=fun D σ H=>Cut t u D σ H
theorem rT{st:Stmt}{rest:List Stmt}{t u:TS} (h1:PS X st t) (h2:PSs X rest u):PSs X (st :: rest) (tCut t u):=by
 intro pins s σ H D I h;obtain ⟨P,a,b⟩:=h.ex;have h1':PS X st (fun D' σ' H'=>∃ P:St->Hp->Prop,t { D' with nx:=P } σ' H'/\∀ σ2 H2,P σ2 H2->D'.nx σ2 H2):=by
  intro pins s σ H D I ⟨P,a,b⟩;refine thn (h1 pins s σ H _ I a) fun f s' q=>?_
  cases f with
  | next=>obtain ⟨σ7,H7,I7,n7⟩:=q; exact ⟨σ7,H7,I7,b _ _ n7⟩
  | cont=>exact q
  | brk=>exact q
  | ret v=>exact q
 exact jJ h1' h2 pins s σ H D I ⟨P,a,b⟩
theorem bC {t u:TS} (P:St->Hp->Prop) (h1:t { D with nx:=P } σ H) (h2:∀ σ' H',P σ' H'->u D σ' H'):Cut t u D σ H:=⟨P,h1,h2⟩
theorem kD {ns:List Int}{i:Int} (h0:0<=i) (h1:i < (ns.length:Int)):∃ n:Int,atI (ns.map V.int) i=some (.int n):=by
 have hk:i.toNat < ns.length:=by omega
 have ek:i=((i.toNat:Nat):Int):=by omega
 have q:atI (ns.map V.int) ((i.toNat:Nat):Int)=some (.int ns[i.toNat]):=bA (by rw [yY,yO hk]; rfl)
 rw [<- ek] at q;exact ⟨_,q⟩
end L2

namespace L2
open PySem PySem.Spec PyProof.Rows
structure Atx {α:Type} (xs:List α) (i:Int) (R:α->Prop):Prop where
 ex:∃ v,atI xs i=some v/\R v
theorem Atx.of {α:Type}{xs:List α}{i:Int}{v:α}{R:α->Prop} (h:atI xs i=some v) (r:R v):Atx xs i R:=⟨v,h,r⟩
section
variable {X:Cx}
theorem IxR.imp {r r':R2} (h:IxR X r) (f:∀ x y H Q,r' x y H Q->r x y H Q):IxR X r':=fun value slice pins s σ H x y v u Q I rx ry q hs=>h value slice pins s σ H x y v u Q I rx ry (f _ _ _ _ q) hs
structure AIL (K:PySem.W.Frag) (x y:V) (H:Hp) (Q:VK):Prop where
 ex:∃ p xs i,x=.ref p/\y=.int i/\SqL K H p xs/\Atx xs i fun v=>Q v H
def aIxL (K:PySem.W.Frag):R2:=fun x y H Q=>AIL K x y H Q
structure AIT (K:PySem.W.Frag) (x y:V) (H:Hp) (Q:VK):Prop where
 ex:∃ p xs i,x=.ref p/\y=.int i/\SqT K H p xs/\Atx xs i fun v=>Q v H
def aIxT (K:PySem.W.Frag):R2:=fun x y H Q=>AIT K x y H Q
theorem aC:IxR X (aIxL X.K):=qR.imp fun x y H Q ⟨p,xs,i,e1,e2,h,a⟩=>let ⟨v,hv,q⟩:=a.ex; ⟨p,xs,i,v,e1,e2,h,hv,q⟩
theorem aH:IxR X (aIxT X.K):=qS.imp fun x y H Q ⟨p,xs,i,e1,e2,h,a⟩=>let ⟨v,hv,q⟩:=a.ex; ⟨p,xs,i,v,e1,e2,h,hv,q⟩
end
end L2
namespace L2
open PySem
section
variable {es:List Expr}{env:Env}
theorem ae {x pos}:starEach (.Name x pos :: es) env=(false,eval (.Name x pos) env) :: starEach es env:=rfl
theorem ax {c k pos}:starEach (.Constant c k pos :: es) env=(false,eval (.Constant c k pos) env) :: starEach es env:=rfl
theorem bh {a o b pos}:starEach (.BinOp a o b pos :: es) env=(false,eval (.BinOp a o b pos) env) :: starEach es env:=rfl
theorem rV {a o pos}:starEach (.UnaryOp o a pos :: es) env=(false,eval (.UnaryOp o a pos) env) :: starEach es env:=rfl
theorem bb {a o b pos}:starEach (.Call a o b pos :: es) env=(false,eval (.Call a o b pos) env) :: starEach es env:=rfl
theorem bw {a k pos}:starEach (.Tuple a k pos :: es) env=(false,eval (.Tuple a k pos) env) :: starEach es env:=rfl
theorem aK {a b pos}:starEach (.Subscript a b pos :: es) env=(false,eval (.Subscript a b pos) env) :: starEach es env:=rfl
theorem iq {a b c pos}:starEach (.IfExp a b c pos :: es) env=(false,eval (.IfExp a b c pos) env) :: starEach es env:=rfl
theorem bH {a b pos}:starEach (.Attribute a b pos :: es) env=(false,eval (.Attribute a b pos) env) :: starEach es env:=rfl
theorem dE {a b c pos}:starEach (.ListComp a b c pos :: es) env=(false,eval (.ListComp a b c pos) env) :: starEach es env:=rfl
end
end L2
namespace L2
open PySem
theorem Ch.own {W:List Addr}{H H':Hp}{p:Addr}{o:HO} (n:H p=none) (c:Ch W H H'):Ch W H (upd H' p o):=fun b u h k=>by
 rw [aR (aY h n)];exact c b u h k
theorem cut1 (x:V) (ys:List V):cutV (x :: ys) (some 1) none=ys:=by
 unfold cutV;have e:HT.sIx (x :: ys).length 0 (some 1)=1:=by
  have z:=HT.sIx_nat (x :: ys).length 0 1;rw [zK] at z ⊢;refine z.trans ?_;omega
 rw [e,HT.sIx_none,List.drop_succ_cons,List.drop_zero,List.take_of_length_le];simp
theorem rW (x:V) (ys:List V):¬ (HT.sIx (x :: ys).length 0 (some 1)=0/\HT.sIx (x :: ys).length (x :: ys).length none=(x :: ys).length):=by
 intro h;have e:HT.sIx (x :: ys).length 0 (some 1)=1:=by
  have z:=HT.sIx_nat (x :: ys).length 0 1;rw [zK] at z ⊢;refine z.trans ?_;omega
 rw [e] at h;exact absurd h.1 (by decide)
end L2
namespace L2
open PySem
theorem Atx.head {α:Type}{x:α}{xs:List α}{R:α->Prop} (r:R x):Atx (x :: xs) 0 R:=⟨x,bA (j:=0) rfl,r⟩
end L2

namespace L2
open PySem PySem.Spec PyProof.Rows
variable{k k1 k2:SK}{h h':Heap}{it l z i1 i2 l1 l2 a:Addr}{i n1 n2 t':Nat}{x b:Value}{Q:Value->Shared->Prop}{xs ys:Array Value}{its:List Addr}{X:Cx}{pins:List (Addr × Obj)}{H:Hp}{s:Shared}{K:PySem.W.Frag}
inductive SK where
 | list | tuple
def SIt (k:SK) (h:Heap) (it l:Addr) (i:Nat):Prop:=match k with
 | .list=>h.IsListIter it l i
 | .tuple=>h.IsTupleIter it l i
def SIs (k:SK) (h:Heap) (l:Addr) (items:Array Value):Prop:=match k with
 | .list=>h.IsList l items
 | .tuple=>h.IsTuple l items
def Sq (k:SK) (K:PySem.W.Frag) (H:Hp) (a:Addr) (xs:List V):Prop:=match k with
 | .list=>SqL K H a xs
 | .tuple=>SqT K H a xs
theorem SIt.at{h:Heap}{a l i} (x:SIt k h a l i) (e:∀ o,h.get? a=some o->h'.get? a=some o):SIt k h' a l i:=by
 cases k with
 | list=>exact Heap.IsListIter.at x e
 | tuple=>exact Heap.IsTupleIter.at x e
theorem SIt.obj {k:SK}{a l i} (x:SIt k h a l i):∃ o,h.get? a=some o/\∀ v,o.data≠.cell v:=by
 cases k with
 | list=>obtain ⟨o,e,c,d⟩:=(show h.IsListIter a l i from x); exact ⟨o,e,fun v z=>by rw [d] at z; cases z⟩
 | tuple=>obtain ⟨o,e,c,d⟩:=(show h.IsTupleIter a l i from x); exact ⟨o,e,fun v z=>by rw [d] at z; cases z⟩
theorem SIs.at {k:SK}{h:Heap}{a items} (x:SIs k h a items) (e:∀ o,h.get? a=some o->h'.get? a=some o):SIs k h' a items:=by
 cases k with
 | list=>exact Heap.IsList.at x e
 | tuple=>obtain ⟨o,ho,r⟩:=(show h.IsTuple a items from x); exact ⟨o,e _ ho,r⟩
theorem SIs.lt {k:SK}{a items} (x:SIs k h a items):a < h.objs.size:=by
 cases k with
 | list=>obtain ⟨_,e,_⟩:=(show h.IsList a items from x); exact yT e
 | tuple=>obtain ⟨_,e,_⟩:=(show h.IsTuple a items from x); exact yT e
section
variable {prog:Program}{w:World}{A:Around}{E:Value->Shared->Prop}{s:Shared}
theorem rX{items}{x:Value}{Q:Value->Shared->Prop} (hit:s.heap.IsTupleIter it l i)
  (hl:s.heap.IsTuple l items) (hx:items[i]?=some x)
  (hQ:∀ h',h'.IsTupleIter it l (i + 1)->Heap.SameBut it s.heap h'->Q x { s with heap:=h' }) :
  wpAny (model prog w) A (Builtin.SmallTypes.nextOf (.ref it)) Q E s:=by
 obtain ⟨o,ho,hc,hd⟩:=id hit;obtain ⟨ol,hol,_,nl,hdl⟩:=hl;unfold Builtin.SmallTypes.nextOf;refine yL (Ak (name:=Str.ofString "__next__") hit.typeIs Ba
  (Al Ba hit.typeIs F.entry_tuple_iterator_next ?_ (F.args_tuple_iterator_next_1 _)))
 show wpAny _ _ (field (.ref it) 0 >>= _) _ _ s;refine yL (zl ho hd (x:=.ref l) rfl ?_);show wpAny _ _ (if (Value.ref l == Value.none)=true then _ else _) _ _ s;rw [yM (show ¬ ((Value.ref l == Value.none)=true) from zj)];show wpAny _ _ (field (.ref it) 1 >>= _) _ _ s;refine yL (zl ho hd (x:=.int i 0) rfl ?_);show wpAny _ _ (seqItems? (.ref l) >>= _) _ _ s;refine yL (zU hol hdl ?_);simp only [A3,hx];refine yL (wpAny_setField ho hd (by simp) (yQ ⟨x,rfl,yQ (hQ _ ?_ (Heap.SameBut.update ..))⟩))
 exact ⟨_,AN _ ho (Obj.isFreed_of_fields (Obj.data_mapFields hd _)),(Obj.cls_mapFields ..).trans hc,by
  rw [Obj.data_mapFields hd]; simp [rawInt]⟩
theorem rY {it l:Addr}{i:Nat}{items}{Q:Value->Shared->Prop} (hh:A.handled=none)
  (hit:s.heap.IsTupleIter it l i) (hl:s.heap.IsTuple l items) (hx:items[i]?=none)
  (hE:∀ h' e,Heap.ExtBut it s.heap h'->(∃ o,h'.get? e=some o/\o.cls=.type "StopIteration")->E (.ref e) { s with heap:=h' }) :
  wpAny (model prog w) A (Builtin.SmallTypes.nextOf (.ref it)) Q E s:=by
 obtain ⟨o,ho,hc,hd⟩:=id hit;obtain ⟨ol,hol,_,nl,hdl⟩:=hl;unfold Builtin.SmallTypes.nextOf;refine yL (Ak (name:=Str.ofString "__next__") hit.typeIs Ba
  (Al Ba hit.typeIs F.entry_tuple_iterator_next ?_ (F.args_tuple_iterator_next_1 _)))
 show wpAny _ _ (field (.ref it) 0 >>= _) _ _ s;refine yL (zl ho hd (x:=.ref l) rfl ?_);show wpAny _ _ (if (Value.ref l == Value.none)=true then _ else _) _ _ s;rw [yM (show ¬ ((Value.ref l == Value.none)=true) from zj)];show wpAny _ _ (field (.ref it) 1 >>= _) _ _ s;refine yL (zl ho hd (x:=.int i 0) rfl ?_);show wpAny _ _ (seqItems? (.ref l) >>= _) _ _ s;refine yL (zU hol hdl ?_);simp only [A3,hx];refine yL (wpAny_rule (yL (wpAny_setField ho hd (by simp) ?_)))
 show wpAny _ _ (newExc (.type "StopIteration") [] >>= _) _ _ _;refine yL ?_;simp only [newExc,newTuple];refine yL (AB ?_ (by size_fits))
 refine yL (m:=firstArgMember _ _) (wpAny_of_eq (a:=Value.none) (by first | rfl | (simp only [firstArgMember]; rfl)) ?_)
 refine AB ?_ (by size_fits)
 simp only [raiseNew];refine yL (wpAny_handled ?_)
 first | rw [show A.in1.handled=none from hh] | rw [hh]
 refine yL (yQ (wpAny_throw ?_));exact hE _ _ (((Heap.SameBut.update ..).extBut.push _).push _) ⟨_,zq _ rfl,rfl⟩
theorem dS{items}{Q:Value->Shared->Prop} (hit:SIt k s.heap it l i) (hl:SIs k s.heap l items) (hx:items[i]?=some x)
  (hQ:∀ h',SIt k h' it l (i + 1)->Heap.SameBut it s.heap h'->Q x { s with heap:=h' }):wpAny (model prog w) A (Builtin.SmallTypes.nextOf (.ref it)) Q E s:=by
 cases k with
 | list=>exact wpAny_nextOf_list_item hit hl hx hQ
 | tuple=>exact rX hit hl hx hQ
theorem eW{items}{Q:Value->Shared->Prop} (hh:A.handled=none) (hit:SIt k s.heap it l i) (hl:SIs k s.heap l items) (hx:items[i]?=none)
  (hE:∀ h' e,Heap.ExtBut it s.heap h'->(∃ o,h'.get? e=some o/\o.cls=.type "StopIteration")->E (.ref e) { s with heap:=h' }) :
  wpAny (model prog w) A (Builtin.SmallTypes.nextOf (.ref it)) Q E s:=by
 cases k with
 | list=>exact wpAny_nextOf_list_end hh hit hl hx hE
 | tuple=>exact rY hh hit hl hx hE
theorem SIt.ext{h:Heap}{a b l i} (x:SIt k h a l i) (hs:Heap.ExtBut b h h') (hab:a≠b):SIt k h' a l i:=x.at fun o e=>hs _ _ hab e
theorem SIs.ext{h:Heap}{a b items} (x:SIs k h a items) (hs:Heap.ExtBut b h h') (hab:a≠b):SIs k h' a items:=x.at fun o e=>hs _ _ hab e
theorem kE {k1 k2:SK}{TI TO:Addr}{n1 n2:Nat}{xs ys:Array Value}{x y a b:Value}{Q:Value->Shared->Prop} (D:ZipApart z TI TO i1 i2 l1 l2)
  (hz:IsZip s.heap z TI TO .none) (hTI:IsPair s.heap TI (.ref i1) (.ref i2)) (hTO:IsPair s.heap TO a b)
  (h1:SIt k1 s.heap i1 l1 n1) (h2:SIt k2 s.heap i2 l2 n2) (hl1:SIs k1 s.heap l1 xs) (hl2:SIs k2 s.heap l2 ys) (hx:xs[n1]?=some x) (hy:ys[n2]?=some y)
  (hQ:∀ h',IsZip h' z TI TO (rawInt s.heap.objs.size)->IsPair h' TO x y->SIt k1 h' i1 l1 (n1 + 1)->SIt k2 h' i2 l2 (n2 + 1)->IsPair h' s.heap.objs.size x y->h'.objs.size=s.heap.objs.size + 1 ->
   (∀ c o,c≠z->c≠TO->c≠i1->c≠i2->s.heap.get? c=some o->h'.get? c=some o)->Q (.ref s.heap.objs.size) { s with heap:=h' }) :
  wpAny (model prog w) A (Builtin.«zip.__next__» ⟨[.ref z],[]⟩) (fun fin s'=>∃ v,fin=.done (.ret v)/\Q v s') E s:=by
 show wpAny _ _ (field (.ref z) 2 >>= _) _ _ _;refine yL (zl hz rfl (x:=.bool false) rfl ?_);show wpAny _ _ (field (.ref z) 3 >>= _) _ _ _;refine yL (zl hz rfl (x:=.ref TI) rfl ?_);refine yL (zU hTI rfl ?_);show wpAny _ _ (Builtin.SmallTypes.ownedTupleIsFree (.ref z) >>= _) _ _ _;refine yL ?_;unfold Builtin.SmallTypes.ownedTupleIsFree;refine yL (zl hz rfl (x:=.none) rfl (yQ ?_));simp only [if_true];refine yL (wpAny_rule ?_);refine yL (zl hz rfl (x:=.ref TO) rfl ?_);refine yL (zV hz (by simp) fun h₁ hz₁ hs₁=>?_)
 replace hz₁:IsZip h₁ z TI TO .ellipsis:=hz₁
 refine yL ?_;simp only [List.zipIdx_cons,List.zipIdx_nil,AS,List.forIn_nil];refine yL (yL (wpAny_onRaise ?_));show wpAny _ _ (Builtin.SmallTypes.nextOf (.ref i1) >>= _) _ _ _;refine yL (dS (h1.ext hs₁.extBut D.i1z) (hl1.ext hs₁.extBut D.l1z) hx fun h₂ h1₂ hs₂=>yQ ?_)
 have hTO₂:IsPair h₂ TO a b:=hs₂.extBut _ _ D.TOi1 (hs₁.extBut _ _ D.TOz hTO);refine yL (zU hTO₂ rfl ?_);refine yL (wpAny_updateSeq_pair hTO₂ fun h₃ hTO₃ hs₃=>?_)
 replace hTO₃:IsPair h₃ TO x b:=hTO₃
 refine yL (wpAny_letGo (yQ ?_));refine yL (yL (wpAny_onRaise ?_));show wpAny _ _ (Builtin.SmallTypes.nextOf (.ref i2) >>= _) _ _ _;refine yL (dS (((h2.ext hs₁.extBut D.i2z).ext hs₂.extBut D.i12.symm).ext hs₃.extBut D.TOi2.symm)
  (((hl2.ext hs₁.extBut D.l2z).ext hs₂.extBut D.l2i1).ext hs₃.extBut D.l2TO) hy fun h₄ h2₄ hs₄=>yQ ?_)
 have hTO₄:IsPair h₄ TO x b:=hs₄.extBut _ _ D.TOi2 hTO₃;refine yL (zU hTO₄ rfl ?_);refine yL (wpAny_updateSeq_pair hTO₄ fun h₅ hTO₅ hs₅=>?_)
 replace hTO₅:IsPair h₅ TO x y:=hTO₅
 refine yL (wpAny_letGo (yQ (yQ ?_)));refine yL (zU hTO₅ rfl ?_);refine yL (wpAny_newTuple ?_);have hsz:h₅.objs.size=s.heap.objs.size:=by rw [hs₅.1,hs₄.1,hs₃.1,hs₂.1,hs₁.1]
 have hz₅:IsZip h₅ z TI TO .ellipsis:=hs₅.extBut _ _ D.TOz.symm (hs₄.extBut _ _ D.i2z.symm (hs₃.extBut _ _ D.TOz.symm (hs₂.extBut _ _ D.i1z.symm hz₁)));have hk₅:∀ c o,c≠z->c≠TO->c≠i1->c≠i2->s.heap.get? c=some o->h₅.get? c=some o:=fun c o c1 c2 c3 c4 e =>
  hs₅.extBut _ _ c2 (hs₄.extBut _ _ c4 (hs₃.extBut _ _ c2 (hs₂.extBut _ _ c3 (hs₁.extBut _ _ c1 e))))
 have h1₅:SIt k1 h₅ i1 l1 (n1 + 1):=((h1₂.ext hs₃.extBut D.TOi1.symm).ext hs₄.extBut D.i12).ext hs₅.extBut D.TOi1.symm;have h2₅:SIt k2 h₅ i2 l2 (n2 + 1):=h2₄.ext hs₅.extBut D.TOi2.symm;have hzlt:z < h₅.objs.size:=yT hz₅;show wpAny _ _ (Builtin.SmallTypes.ownedTupleHandOut (.ref z) (.ref h₅.objs.size) >>= _) _ _ _;refine yL ?_;unfold Builtin.SmallTypes.ownedTupleHandOut;have hz₆:IsZip (h₅.push { cls:=.type "tuple",data:=.seq #[x,y] }) z TI TO .ellipsis:=yW _ hz₅;refine yL (zV hz₆ (by simp) fun h₇ hz₇ hs₇=>?_)
 replace hz₇:IsZip h₇ z TI TO (rawInt h₅.objs.size):=hz₇
 refine zV hz₇ (by simp) fun h₈ hz₈ hs₈=>?_
 replace hz₈:IsZip h₈ z TI TO (rawInt h₅.objs.size):=hz₈
 have up:∀ c o,c≠z->h₅.get? c=some o->h₈.get? c=some o:=fun c o c1 e=>hs₈.extBut _ _ c1 (hs₇.extBut _ _ c1 (yW _ e))
 have hT₈:IsPair h₈ h₅.objs.size x y:=hs₈.extBut _ _ (zB hzlt) (hs₇.extBut _ _ (zB hzlt) (zq _ rfl));have hz8:h₈.objs.size=h₅.objs.size + 1:=by rw [hs₈.1,hs₇.1,z8]
 rw [hsz] at hz₈ hT₈ hz8;refine yQ ⟨_,rfl,?_⟩;show Q (.ref h₅.objs.size) _;rw [hsz];exact hQ h₈ hz₈ (up _ _ D.TOz hTO₅) (h1₅.at fun o e=>up _ o D.i1z e) (h2₅.at fun o e=>up _ o D.i2z e) hT₈ hz8 fun c o c1 c2 c3 c4 e=>up c o c1 (hk₅ c o c1 c2 c3 c4 e)
theorem kF {k1 k2:SK}{TI TO:Addr}{n1 n2:Nat}{xs ys:Array Value}{a b:Value}{Q:Fin->Shared->Prop} (hh:A.handled=none) (D:ZipApart z TI TO i1 i2 l1 l2)
  (hz:IsZip s.heap z TI TO .none) (hTI:IsPair s.heap TI (.ref i1) (.ref i2)) (hTO:IsPair s.heap TO a b)
  (h1:SIt k1 s.heap i1 l1 n1) (h2:SIt k2 s.heap i2 l2 n2) (hl1:SIs k1 s.heap l1 xs) (hl2:SIs k2 s.heap l2 ys) (hend:xs[n1]?=none\/ys[n2]?=none)
  (hE:∀ h' e,(∀ c o,c≠z->c≠TO->c≠i1->c≠i2->s.heap.get? c=some o->h'.get? c=some o)->(∃ o,h'.get? e=some o/\o.cls=.type "StopIteration")->E (.ref e) { s with heap:=h' }) :
  wpAny (model prog w) A (Builtin.«zip.__next__» ⟨[.ref z],[]⟩) Q E s:=by
 show wpAny _ _ (field (.ref z) 2 >>= _) _ _ _;refine yL (zl hz rfl (x:=.bool false) rfl ?_);show wpAny _ _ (field (.ref z) 3 >>= _) _ _ _;refine yL (zl hz rfl (x:=.ref TI) rfl ?_);refine yL (zU hTI rfl ?_);show wpAny _ _ (Builtin.SmallTypes.ownedTupleIsFree (.ref z) >>= _) _ _ _;refine yL ?_;unfold Builtin.SmallTypes.ownedTupleIsFree;refine yL (zl hz rfl (x:=.none) rfl (yQ ?_));simp only [if_true];refine yL (wpAny_rule ?_);refine yL (zl hz rfl (x:=.ref TO) rfl ?_);refine yL (zV hz (by simp) fun h₁ hz₁ hs₁=>?_)
 replace hz₁:IsZip h₁ z TI TO .ellipsis:=hz₁
 refine yL ?_;simp only [List.zipIdx_cons,List.zipIdx_nil,AS,List.forIn_nil];refine yL (yL (wpAny_onRaise ?_));show wpAny _ _ (Builtin.SmallTypes.nextOf (.ref i1) >>= _) _ _ _;cases hx:xs[n1]? with
 | none =>
  refine yL (eW hh (h1.ext hs₁.extBut D.i1z) (hl1.ext hs₁.extBut D.l1z) hx fun h₂ e hs₂ he=>?_)
  obtain ⟨oe,hoe,hce⟩:=he;have hz₂:IsZip h₂ z TI TO .ellipsis:=hs₂ _ _ D.i1z.symm hz₁;have hez:e≠z:=fun x=>by subst x; rw [hz₂] at hoe; cases hoe; simp at hce
  refine zV hz₂ (by simp) fun h₃ _ hs₃=>hE h₃ e (fun c o c1 _ c3 _ x=>hs₃.extBut _ _ c1 (hs₂ _ _ c3 (hs₁.extBut _ _ c1 x))) ⟨oe,hs₃.extBut _ _ hez hoe,hce⟩
 | some x =>
  have hy:ys[n2]?=none:=by rcases hend with h | h; rw [hx] at h; cases h; exact h
  refine yL (dS (h1.ext hs₁.extBut D.i1z) (hl1.ext hs₁.extBut D.l1z) hx fun h₂ h1₂ hs₂=>yQ ?_)
  have hTO₂:IsPair h₂ TO a b:=hs₂.extBut _ _ D.TOi1 (hs₁.extBut _ _ D.TOz hTO);refine yL (zU hTO₂ rfl ?_);refine yL (wpAny_updateSeq_pair hTO₂ fun h₃ hTO₃ hs₃=>?_)
  refine yL (wpAny_letGo (yQ ?_));refine yL (yL (wpAny_onRaise ?_));show wpAny _ _ (Builtin.SmallTypes.nextOf (.ref i2) >>= _) _ _ _;refine yL (eW hh (((h2.ext hs₁.extBut D.i2z).ext hs₂.extBut D.i12.symm).ext hs₃.extBut D.TOi2.symm)
   (((hl2.ext hs₁.extBut D.l2z).ext hs₂.extBut D.l2i1).ext hs₃.extBut D.l2TO) hy fun h₄ e hs₄ he=>?_)
  obtain ⟨oe,hoe,hce⟩:=he;have hz₄:IsZip h₄ z TI TO .ellipsis:=hs₄ _ _ D.i2z.symm (hs₃.extBut _ _ D.TOz.symm (hs₂.extBut _ _ D.i1z.symm hz₁));have hez:e≠z:=fun x=>by subst x; rw [hz₄] at hoe; cases hoe; simp at hce
  refine zV hz₄ (by simp) fun h₅ _ hs₅=>hE h₅ e (fun c o c1 c2 c3 c4 x=>hs₅.extBut _ _ c1 (hs₄ _ _ c4 (hs₃.extBut _ _ c2 (hs₂.extBut _ _ c3 (hs₁.extBut _ _ c1 x))))) ⟨oe,hs₅.extBut _ _ hez hoe,hce⟩
end
section
variable {X:Cx}{pins:List (Addr × Obj)}{σ:List (Option V)}{H H':Hp}{s:Shared}{h':Heap}
theorem Inv.turnedL {t':Nat}{its:List Addr} (I:Inv X pins σ H s) (k:∀ b o,b ∉ its->s.heap.get? b=some o->h'.get? b=some o) (hf:∀ b∈its,FpOk X pins H b):Inv X pins σ H { s with heap:=h',toks:=t' }:=by
 have nit:∀ b u,H b=some u->b ∉ its:=fun b u e z=>by rw [(hf b z).1] at e; cases e
 refine I.step (g':=s.gens) (d':=s.drawn) (ch:=its) (fun b hb=>?_) (fun b o _ _ hc e _=>k b o hc e) (fun b o _ _ hc e _=>⟨o.slots,k b o hc e⟩) (fun _ _ _ _ n=>n)
  (fun b o hc e=>⟨o,k b o hc e⟩) (fun _ _ e=>e) (fun _ _ _ e=>e) (fun b ps e=>⟨#[],by rw [e]; simp⟩) (fun m hm=>?_) (fun b u e=>?_) I.bare
 ·obtain ⟨f0,f1,f2,f3,f4,f5⟩:=hf b hb
  exact ⟨f3,f1,f4,f5⟩
 ·obtain ⟨o,es,ep,ho,r⟩:=hm
  exact ⟨o,es,ep,k _ o (fun z=>(hf _ z).2.1 rfl) ho,r⟩
 ·refine (I.hok b u e).stay (fun c v hc q=>k c v ?_ q) (fun _ q=>q) fun _ _ q=>q
  rcases hc with z | z
  ·rw [z]; exact nit b u e
  ·exact nit c _ z
theorem Inv.turnedNew {t':Nat}{T:Addr}{o:HO} (I:Inv X pins σ H s) (k:∀ b ob,b ∉ its->s.heap.get? b=some ob->h'.get? b=some ob) (hf:∀ b∈its,FpOk X pins H b)
  (hT:s.heap.objs.size<=T) (new:ObjOk X.prog X.w (upd H T o) h' T o):Inv X pins σ (upd H T o) { s with heap:=h',toks:=t' }:=by
 have nit:∀ b u,H b=some u->b ∉ its:=fun b u e z=>by rw [(hf b z).1] at e; cases e
 have hn:H T=none:=I.hok.fresh hT;have neT:∀ b ob,s.heap.get? b=some ob->b≠T:=fun b ob e=>y9 (zr (yT e) hT)
 have up:∀ b u,H b=some u->upd H T o b=some u:=fun b u e=>by rw [aR (aY e hn)]; exact e
 refine I.step (g':=s.gens) (d':=s.drawn) (ch:=its) (fun b hb=>?_) (fun b ob _ _ hc e _=>k b ob hc e) (fun b ob _ _ hc e _=>⟨ob.slots,k b ob hc e⟩) (fun b ob _ e n=>by rw [aR (neT b ob e)]; exact n)
  (fun b ob hc e=>⟨ob,k b ob hc e⟩) (fun b _ e=>up b _ e) (fun b _ _ e=>up b _ e) (fun b ps e=>⟨#[],by rw [up b _ e]; simp⟩) (fun m hm=>?_) (fun b u e=>?_) I.bare
 ·obtain ⟨f0,f1,f2,f3,f4,f5⟩:=hf b hb
  exact ⟨f3,f1,f4,f5⟩
 ·obtain ⟨ob,es,ep,ho,r⟩:=hm
  exact ⟨ob,es,ep,k _ ob (fun z=>(hf _ z).2.1 rfl) ho,r⟩
 ·by_cases hb:b=T
  ·subst hb; rw [ah] at e; cases e; exact new
  ·rw [aR hb] at e
   refine (I.hok b u e).stay (fun c v hc q=>k c v ?_ q) (fun c q=>up c _ q) fun c xs q=>up c _ q
   rcases hc with z | z
   ·rw [z]; exact nit b u e
   ·exact nit c _ z
end
theorem Inv.sis {X:Cx}{pins:List (Addr × Obj)}{σ:St}{H:Hp}{xs:List V} (I:Inv X pins σ H s) (h:Sq k X.K H a xs):∃ its:List Value,Vals xs its/\SIs k s.heap a its.toArray:=by
 cases k with
 | list=>obtain ⟨its,r,p,_⟩:=I.list h; exact ⟨its,r,p.isList⟩
 | tuple=>obtain ⟨its,r,p,_⟩:=I.tuple h; exact ⟨its,r,(show s.heap.IsTuple a its.toArray from p)⟩
theorem Inv.sq_inj {X:Cx}{pins:List (Addr × Obj)}{σ:St}{H:Hp}{s:Shared}{k:SK}{a:Addr}{xs ys:List V} (I:Inv X pins σ H s) (h:Sq k X.K H a xs) (h':Sq k X.K H a ys):xs=ys:=by
 cases k with
 | list=>exact I.list_inj h h'
 | tuple=>exact I.tuple_inj h h'
def Itz (K:PySem.W.Frag) (k1 k2:SK) (a b:Addr):It :=
 ⟨fun i H=>∃ xs ys x y,Sq k1 K H a xs/\Sq k2 K H b ys/\xs[i]?=some x/\ys[i]?=some y,
  fun i H v H'=>∃ T,H T=none/\v=.ref T/\∀ xs ys,Sq k1 K H a xs->Sq k2 K H b ys->∃ x y,xs[i]?=some x/\ys[i]?=some y/\H'=upd H T (.tup [x,y]),
  fun i H=>∃ xs ys,Sq k1 K H a xs/\Sq k2 K H b ys/\(xs.length<=i\/ys.length<=i)⟩
theorem rZ {P:Program}{w:World}{K:PySem.W.Frag}{elts:List Expr}{kk:Nat}{tpos:Pos}{k1 k2:SK}{TI TO b:Addr} (D:ZipApart z TI TO i1 i2 a b) :
  Turn P w K (.Tuple elts kk tpos) (Itz K k1 k2 a b) [z,TI,TO,i1,i2] z (fun i h=>IsZip h z TI TO .none/\IsPair h TI (.ref i1) (.ref i2)/\(∃ c d,IsPair h TO c d)/\SIt k1 h i1 a i/\SIt k2 h i2 b i) where
 mem:=by simp
 obj:=fun i h st b hb=>by
  obtain ⟨hz,hTI,⟨c,d,hTO⟩,h1,h2⟩:=st;simp only [yZ,ze,zh] at hb;rcases hb with rfl | rfl | rfl | rfl | rfl
  ·exact ⟨_,hz,fun v q=>nomatch q⟩
  ·exact ⟨_,hTI,fun v q=>nomatch q⟩
  ·exact ⟨_,hTO,fun v q=>nomatch q⟩
  ·exact h1.obj
  ·exact h2.obj
 keep:=fun i h h' st k=>by
  obtain ⟨hz,hTI,⟨c,d,hTO⟩,h1,h2⟩:=st;exact ⟨k _ (by simp) _ hz,k _ (by simp) _ hTI,⟨c,d,k _ (by simp) _ hTO⟩,h1.at fun o e=>k _ (by simp) o e,h2.at fun o e=>k _ (by simp) o e⟩
 item:=by
  intro X hP hw hK hc i pins s σ H E I hf st hg;subst hP hw hK;obtain ⟨hz,hTI,⟨c,d,hTO⟩,h1,h2⟩:=st;obtain ⟨xs,ys,x,y,q1,q2,hx,hy⟩:=hg;obtain ⟨ix,rx,px⟩:=I.sis q1;obtain ⟨iy,ry,py⟩:=I.sis q2;obtain ⟨u,hu,ru⟩:=rx.get hx;obtain ⟨v,hv,rv⟩:=ry.get hy;have hT:s.TypeIs (.ref z) "zip" := ⟨_,hz,rfl⟩;unfold pyNext;refine yL (AH (Ak (name:=Str.ofString "__next__") hT Am
   (Al Am hT F.entry_zip_next
    (kE D hz hTI hTO h1 h2 px py (x:=u) (y:=v) (by simpa using hu) (by simpa using hv) fun h' a1 a2 a3 a4 a5 a6 a7=>yQ ?_) (F.args_zip_next_1 _))))
  refine ⟨_,rfl,wpAny_letOwnedTupleGo_zip (s:={ s with heap:=h' }) a1 fun h'' b1 b2=>?_⟩
  have zlt:z < s.heap.objs.size:=yT hz;have k2:∀ c o,c ∉ [z,TI,TO,i1,i2]->s.heap.get? c=some o->h''.get? c=some o:=fun c o hc e=>by
   simp only [yZ,ze,zh,not_or] at hc;exact b2.extBut _ _ hc.1 (a7 c o hc.1 hc.2.2.1 hc.2.2.2.1 hc.2.2.2.2 e)
  have hT2:IsPair h'' s.heap.objs.size u v:=b2.extBut _ _ (zB zlt) a5;refine ⟨.ref s.heap.objs.size,upd H s.heap.objs.size (.tup [x,y]),I.turnedNew (t':=s.toks) (o:=.tup [x,y]) k2 hf (yP _) ⟨by show 2<=sizeLine; decide,[u,v],.cons ru (.cons rv .nil),⟨_,hT2,rfl,_,rfl⟩⟩,rfl,
   ⟨_,I.hok.fresh (yP _),rfl,fun xs' ys' e1 e2=>?_⟩,⟨b1,?_,⟨_,_,b2.extBut _ _ D.TOz a2⟩,a3.at fun o e=>b2.extBut _ _ D.i1z e,a4.at fun o e=>b2.extBut _ _ D.i2z e⟩,fun b hb=>?_⟩
  ·rw [I.sq_inj e1 q1,I.sq_inj e2 q2]
   exact ⟨x,y,hx,hy,rfl⟩
  ·exact b2.extBut _ _ D.TIz (a7 _ _ D.TIz D.TITO D.TIi1 D.TIi2 hTI)
  ·have blt:b < s.heap.objs.size:=by
    simp only [yZ,ze,zh] at hb;rcases hb with rfl | rfl | rfl | rfl | rfl
    ·exact zlt
    ·exact yT hTI
    ·exact yT hTO
    ·obtain ⟨o,e,_⟩:=h1.obj; exact yT e
    ·obtain ⟨o,e,_⟩:=h2.obj; exact yT e
   rw [aR (y9 blt)];exact (hf b hb).1
 done:=by
  intro X hP hw hK hc i pins s σ H E I hf st hg;subst hP hw hK;obtain ⟨hz,hTI,⟨c,d,hTO⟩,h1,h2⟩:=st;obtain ⟨xs,ys,q1,q2,hl⟩:=hg;obtain ⟨ix,rx,px⟩:=I.sis q1;obtain ⟨iy,ry,py⟩:=I.sis q2;have l1:=rx.length;have l2:=ry.length;have hend:ix.toArray[i]?=none\/iy.toArray[i]?=none:=by
   rcases hl with h | h
   ·exact .inl (by simp; omega)
   ·exact .inr (by simp; omega)
  have hT:s.TypeIs (.ref z) "zip" := ⟨_,hz,rfl⟩;unfold pyNext;refine yL (AH (Ak (name:=Str.ofString "__next__") hT Am
   (Al Am hT F.entry_zip_next (kF (I.ok.hd hc) D hz hTI hTO h1 h2 px py hend fun h' e hk he=>?_) (F.args_zip_next_1 _))))
  obtain ⟨o,ho,hc'⟩:=he;refine yL (wpAny_isInstance (T := "StopIteration") (b:=true) ⟨o,ho,hc'⟩ isSubtype_stop ?_);refine yQ ⟨rfl,I.turnedL (t':=s.toks) (its:=[z,TI,TO,i1,i2]) (fun b o hb e=>?_) hf⟩
  simp only [yZ,ze,zh,not_or] at hb;exact hk b o hb.1 hb.2.2.1 hb.2.2.2.1 hb.2.2.2.2 e
 self:=fun _ _ _ _ _ st h=>wpAny_pyIter_zip st.1 h
def itObj (k:SK) (l:Addr):Obj:=match k with
 | .list=>{ cls:=.type "list_iterator",data:=.fields #[.ref l,.int 0 0] }
 | .tuple=>{ cls:=.type "tuple_iterator",data:=.fields #[.ref l,.int 0 0] }
theorem ir (e:h.get? it=some (itObj k l)):SIt k h it l 0:=by
 cases k with
 | list=>exact ⟨_,e,rfl,rfl⟩
 | tuple=>exact ⟨_,e,rfl,rfl⟩
abbrev zS1 (h:Heap) (k1:SK) (l1:Addr):Heap:=h.push (itObj k1 l1)
abbrev zS2 (h:Heap) (k1 k2:SK) (l1 l2:Addr):Heap:=(zS1 h k1 l1).push (itObj k2 l2)
abbrev zS3 (h:Heap) (k1 k2:SK) (l1 l2:Addr):Heap:=(zS2 h k1 k2 l1 l2).push { cls:=.type "tuple",data:=.seq #[.ref h.objs.size,.ref (zS1 h k1 l1).objs.size] }
abbrev zS4 (h:Heap) (k1 k2:SK) (l1 l2:Addr):Heap:=(zS3 h k1 k2 l1 l2).push { cls:=.type "tuple",data:=.seq #[.none,.none] }
abbrev zS5 (h:Heap) (k1 k2:SK) (l1 l2:Addr):Heap:=(zS4 h k1 k2 l1 l2).push { cls:=.type "zip",data:=.fields #[.none,.bool false,.bool false,.ref (zS2 h k1 k2 l1 l2).objs.size,.ref (zS3 h k1 k2 l1 l2).objs.size] }
set_option maxHeartbeats 4000000 in
theorem r6 (k1 k2:SK) (l1 l2:Addr) (xs ys:Array Value) :
  Meets (Builtin.«zip.__new__» ⟨[.type "zip",.ref l1,.ref l2],[]⟩) (fun _ R s=>SIs k1 s.heap l1 xs/\SIs k2 s.heap l2 ys /\
   R (.ok (.ret (.ref (zS4 s.heap k1 k2 l1 l2).objs.size))) { s with heap:=zS5 s.heap k1 k2 l1 l2 }):=by
 cases k1 with
 | list =>
  cases k2 with
  | list =>
   exact .of_wp fun prog w A R s h=>by
    obtain ⟨hp,g,d,tk,os⟩:=s; obtain ⟨hl1,hl2,h⟩:=h;have hsub:=sub_zip;have hL1:Heap.IsList (Shared.heap ⟨hp,g,d,tk,os⟩) l1 xs:=hl1;have hL2:Heap.IsList (Shared.heap ⟨hp.push { cls:=.type "list_iterator",data:=.fields #[.ref l1,.int 0 0] },g,d,tk,os⟩) l2 ys:=Heap.IsList.push hl2 _
    wp_walk using Aj hL1,Aj hL2
    exact ⟨_,rfl,h⟩
  | tuple =>
   exact .of_wp fun prog w A R s h=>by
    obtain ⟨hp,g,d,tk,os⟩:=s; obtain ⟨hl1,hl2,h⟩:=h;have hsub:=sub_zip;have hL1:Heap.IsList (Shared.heap ⟨hp,g,d,tk,os⟩) l1 xs:=hl1;have hL2:Heap.IsTuple (Shared.heap ⟨hp.push { cls:=.type "list_iterator",data:=.fields #[.ref l1,.int 0 0] },g,d,tk,os⟩) l2 ys:=SIs.at (k:=.tuple) hl2 fun o e=>yW _ e
    wp_walk using Aj hL1,Ao hL2
    exact ⟨_,rfl,h⟩
 | tuple =>
  cases k2 with
  | list =>
   exact .of_wp fun prog w A R s h=>by
    obtain ⟨hp,g,d,tk,os⟩:=s; obtain ⟨hl1,hl2,h⟩:=h;have hsub:=sub_zip;have hL1:Heap.IsTuple (Shared.heap ⟨hp,g,d,tk,os⟩) l1 xs:=hl1;have hL2:Heap.IsList (Shared.heap ⟨hp.push { cls:=.type "tuple_iterator",data:=.fields #[.ref l1,.int 0 0] },g,d,tk,os⟩) l2 ys:=SIs.at (k:=.list) hl2 fun o e=>yW _ e
    wp_walk using Ao hL1,Aj hL2
    exact ⟨_,rfl,h⟩
  | tuple =>
   exact .of_wp fun prog w A R s h=>by
    obtain ⟨hp,g,d,tk,os⟩:=s; obtain ⟨hl1,hl2,h⟩:=h;have hsub:=sub_zip;have hL1:Heap.IsTuple (Shared.heap ⟨hp,g,d,tk,os⟩) l1 xs:=hl1;have hL2:Heap.IsTuple (Shared.heap ⟨hp.push { cls:=.type "tuple_iterator",data:=.fields #[.ref l1,.int 0 0] },g,d,tk,os⟩) l2 ys:=SIs.at (k:=.tuple) hl2 fun o e=>yW _ e
    wp_walk using Ao hL1,Ao hL2
    exact ⟨_,rfl,h⟩
section
variable {prog:Program}{w:World}{A:Around}{E:Value->Shared->Prop}{s:Shared}
theorem kG{Q:Value->Shared->Prop} (hl1:SIs k1 s.heap l1 xs) (hl2:SIs k2 s.heap l2 ys)
  (h:∀ h',IsZip h' (s.heap.objs.size + 4) (s.heap.objs.size + 2) (s.heap.objs.size + 3) .none->IsPair h' (s.heap.objs.size + 2) (.ref s.heap.objs.size) (.ref (s.heap.objs.size + 1)) ->
   IsPair h' (s.heap.objs.size + 3) .none .none->SIt k1 h' s.heap.objs.size l1 0->SIt k2 h' (s.heap.objs.size + 1) l2 0 ->
   (∀ c o,s.heap.get? c=some o->h'.get? c=some o)->Q (.ref (s.heap.objs.size + 4)) { s with heap:=h' }) :
  wpAny (model prog w) A (call (.type "zip") [.ref l1,.ref l2]) Q E s:=by
 refine callType_new F.called_zip (by decide) (F.typeCall_zip_2 _ _) (F.newCall_zip_2 _ _) (fun obj=>F.args_object_init_3 obj _ _) F.entry_zip_new
  (r6 k1 k2 l1 l2 xs ys) ⟨hl1,hl2,?_⟩
 have z1:(zS1 s.heap k1 l1).objs.size=s.heap.objs.size + 1:=z8 ..;have z2:(zS2 s.heap k1 k2 l1 l2).objs.size=s.heap.objs.size + 2:=by rw [z8,z1]
 have z3:(zS3 s.heap k1 k2 l1 l2).objs.size=s.heap.objs.size + 3:=by rw [z8,z2]
 have z4:(zS4 s.heap k1 k2 l1 l2).objs.size=s.heap.objs.size + 4:=by rw [z8,z3]
 have r1:(itObj k1 l1).isFreed=false:=by cases k1 <;> rfl
 have r2:(itObj k2 l2).isFreed=false:=by cases k2 <;> rfl
 have g5:(zS5 s.heap k1 k2 l1 l2).get? (zS4 s.heap k1 k2 l1 l2).objs.size=some _:=zq _ rfl;have g4:(zS5 s.heap k1 k2 l1 l2).get? (zS3 s.heap k1 k2 l1 l2).objs.size=some _:=yW _ (zq _ rfl);have g3:(zS5 s.heap k1 k2 l1 l2).get? (zS2 s.heap k1 k2 l1 l2).objs.size=some _:=yW _ (yW _ (zq _ rfl));have g2:(zS5 s.heap k1 k2 l1 l2).get? (zS1 s.heap k1 l1).objs.size=some _:=yW _ (yW _ (yW _ (zq _ r2)));have g1:(zS5 s.heap k1 k2 l1 l2).get? s.heap.objs.size=some _:=yW _ (yW _ (yW _ (yW _ (zq _ r1))));show _/\_;rw [z2,z3,z4] at g5;rw [z1,z2] at g3;rw [z3] at g4;rw [z1] at g2;rw [z4];exact ⟨⟨_,g5,rfl⟩,h _ g5 g3 g4 (ir g1) (ir g2) fun c o x =>
  yW _ (yW _ (yW _ (yW _ (yW _ x))))⟩
end
section
variable {X:Cx}{elts:List Expr}{kk:Nat}{tpos:Pos}
def iZip (K:PySem.W.Frag) (k1 k2:SK) (ta:TA):TI:=fun σ H R=>ta σ H fun vs H1=>∃ a b,vs=[.ref a,.ref b]/\(∃ xs,Sq k1 K H1 a xs)/\(∃ ys,Sq k2 K H1 b ys)/\R (Itz K k1 k2 a b) H1
theorem se (k1 k2:SK) {a b:Expr}{ta:TA}{p pos:Pos} (hg:Gl X "zip") (hm:X.mg "zip" = none) (ha:PA X [a,b] ta) (hs:starEach [a,b] X.env=[(false,eval a X.env),(false,eval b X.env)]:=by rfl) (hs2:starEach [b] X.env=[(false,eval b X.env)]:=by rfl) :
  PI X (.Tuple elts kk tpos) (.Call (.Name "zip" p) [a,b] [] pos) (iZip X.K k1 k2 ta):=by
 intro pins s σ H R I h;refine Call_ (dh I hg hm boot_zip (Ay (thn (ha pos pins s σ H _ I h) fun us s1 ⟨vs,H1,I1,r1,q1⟩=>?_) (by rw [hs,hs2]) (by rw [hs2]; rfl)))
 obtain ⟨a',b',e,⟨xs,qx⟩,⟨ys,qy⟩,q⟩:=q1;subst e;obtain ⟨u,v,rfl,ru,rv⟩:=vals2 r1;cases ru;cases rv;obtain ⟨ix,rx,px⟩:=I1.sis qx;obtain ⟨iy,ry,py⟩:=I1.sis qy;refine kG px py fun h' b1 b2 b3 b4 b5 b6=>wpAny_pyIter_zip (s:={ s1 with heap:=h' }) b1 ?_
 have nn:∀ b,s1.heap.objs.size<=b->FpOk X pins H1 b:=fun b hb=>I1.fpOk hb (I1.hok.fresh hb)
 refine ⟨_,[s1.heap.objs.size + 4,s1.heap.objs.size + 2,s1.heap.objs.size + 3,s1.heap.objs.size,s1.heap.objs.size + 1],_,_,H1,rfl,I1.kept (t':=s1.toks) b6,rZ (k1:=k1) (k2:=k2) (zipApart_new px.lt py.lt),⟨b1,b2,⟨_,_,b3⟩,b4,b5⟩,fun b hb=>?_,q⟩
 simp only [yZ,ze,zh] at hb;rcases hb with rfl | rfl | rfl | rfl | rfl
 ·exact nn _ (As _ _)
 ·exact nn _ (As _ _)
 ·exact nn _ (As _ _)
 ·exact nn _ (yP _)
 ·exact nn _ (As _ _)
theorem eC {K:PySem.W.Frag}{k1 k2:SK}{a b:Addr}{xs ys:List V}{g:TG}{tb:TS}{D:Ends}{σ:St} (Pv:Nat->St->Hp->Prop) (h0:Pv 0 σ H)
  (hl:∀ i σ H,i<=min xs.length ys.length->Pv i σ H->Sq k1 K H a xs/\Sq k2 K H b ys)
  (hs:∀ i x y σ H T,xs[i]?=some x->ys[i]?=some y->Pv i σ H->H T=none->g (.ref T) σ (upd H T (.tup [x,y])) fun σ2 H2=>tb { D with nx:=Pv (i + 1),ct:=Pv (i + 1),bk:=D.nx } σ2 H2)
  (hd:∀ σ H,Pv (min xs.length ys.length) σ H->D.nx σ H):Loop (Itz K k1 k2 a b) g tb D σ H:=by
 refine ⟨fun i m σ H=>m=min xs.length ys.length - i/\i<=min xs.length ys.length/\Pv i σ H,⟨min xs.length ys.length,by simp,zZ _,h0⟩,?_⟩
 rintro i m σ H ⟨rfl,hi,p⟩;obtain ⟨q1,q2⟩:=hl i σ H hi p
 by_cases hlt:i < min xs.length ys.length
 ·have l1:i < xs.length:=by omega
  have l2:i < ys.length:=by omega
  refine .inr ⟨⟨xs,ys,xs[i],ys[i],q1,q2,by simp [l1],by simp [l2]⟩,Pv (i + 1),fun σ' H' p'=>⟨min xs.length ys.length - (i + 1),by omega,rfl,hlt,p'⟩,fun x H' y=>?_⟩
  obtain ⟨T,hT,rfl,y⟩:=y;obtain ⟨u,v,e1,e2,rfl⟩:=y xs ys q1 q2;exact hs i u v σ H T e1 e2 p hT
 ·have e:i=min xs.length ys.length:=by omega
  refine .inl ⟨⟨xs,ys,q1,q2,by omega⟩,?_⟩
  subst e;exact hd σ H p
end
end L2

namespace L2
open PySem PySem.Spec PyProof.Rows PySem.Builtin PySem.Builtin.Str
section
variable {X:Cx}
def rIsT (K:PySem.W.Frag):List V->Hp->VK->Prop:=fun xs H Q=>∃ x T t b,xs=[x,.ty T]/\TyOf K H x t/\PySem.W.kitOne K t (.type T)=some b/\Q (.bl b) H
theorem fY:CallR X (.builtin "isinstance") (rIsT X.K):=by
 intro pins s σ H xs us Q I r h;obtain ⟨x,T,t,b,rfl,ty,e,q⟩:=h;obtain ⟨u,v,rfl,ru,rv⟩:=vals2 r;cases rv;exact qk I ru ty e fun tk=>⟨.bl b,H,I.tok _,rfl,q⟩
example (K:PySem.W.Frag):PySem.W.kitOne K (.type "int") (.type "int")=some true:=rfl
example (K:PySem.W.Frag):PySem.W.kitOne K (.type "str") (.type "int")=some false:=rfl
example (K:PySem.W.Frag):PySem.W.kitOne K (.type "tuple") (.type "int")=some false:=rfl
example (K:PySem.W.Frag):PySem.W.kitOne K (.type "bool") (.type "int")=some true:=rfl
end
def ent (w:World) (x:Str × Tok × Value):DictEntry:=⟨hashStr w x.1,.str x.1 x.2.1,x.2.2⟩
structure KD (P:Program) (w:World) (K:PySem.W.Frag) (a:Addr) (kvs:List (Key × V)):Prop where
 ex:∃ (o:Obj) (es:Array DictEntry) (ep:Nat) (vs:List (Key × Value)),K.lookup a=some o/\o.ExactDict/\o.data=.dict es ep/\KeysOf (mixKind P w) es/\Pairs (mixKind P w) es.toList vs/\(vs.map (·.1)).Nodup/\KV kvs vs
 ns:(a == sysModules)=false
def DK (P:Program) (w:World) (K:PySem.W.Frag) (H:Hp) (a:Addr) (kvs:List (Key × V)):Prop:=Rd H a (.dK kvs)\/KD P w K a kvs
theorem Inv.dict {X:Cx}{pins:List (Addr × Obj)}{σ:St}{H:Hp}{s:Shared}{a:Addr}{kvs:List (Key × V)} (I:Inv X pins σ H s) (h:DK X.prog X.w X.K H a kvs) :
  (a == sysModules)=false/\∃ vs,KV kvs vs/\s.heap.DictOf (mixKind X.prog X.w) a vs:=by
 rcases h with h | h
 ·obtain ⟨_,b,c⟩:=dD I.hok h
  exact ⟨b,c⟩
 ·obtain ⟨o,es,ep,vs,h1,h2,h3,h4,h5,h6,h7⟩:=h.ex
  exact ⟨h.ns,vs,h7,o,es,ep,I.kIn a o h1,h2,h3,h4,h5,h6⟩
theorem sk {P:Program}{w:World}{s:Shared}{a:Addr}{vs:List (Key × Value)} (d:s.heap.DictOf (mixKind P w) a vs):s.TypeIs (.ref a) "dict" := by
 obtain ⟨o,es,ep,h1,h2,_⟩:=d;exact ⟨o,h1,h2.1⟩
section
variable {X:Cx}
def rIxD (X:Cx):R2:=fun x y H Q=>∃ a kvs k v,x=.ref a/\y=kV k/\DK X.prog X.w X.K H a kvs/\valV kvs k=some v/\Q v H
theorem sr {o i:Expr}{td ty:TE}{pos:Pos} (ho:PE X o td) (hi:PE X i ty) (hs:NoSl i):PE X (.Subscript o i pos) (tOp (rIxD X) td ty):=by
 intro pins s σ H Q I h;refine kz PySem.F.slot_dict_getitem.lookup hs (thn (ho pins s σ H _ I h) fun u s1 ⟨x,H1,I1,rx,q1⟩=>thn (hi pins s1 σ H1 _ I1 q1) fun iv s2 ⟨y,H2,I2,ry,q2⟩=>?_)
 obtain ⟨a,kvs,k,v,rfl,rfl,dk,hv,q⟩:=q2;obtain rfl:u=Value.ref a:=rx;obtain ⟨_,vs,rel,dd⟩:=I2.dict dk;obtain ⟨w',hw,rw'⟩:=RelO.some_of (v:=v) (o:=valueAt vs k) (by rw [<- hv]; exact rel.val k)
 exact ⟨sk dd,wpAny_getItem_of (cS ry) dd.mapOf hw ⟨v,H2,I2.tok _,rw',q⟩⟩
def rInD (X:Cx) (neg:Bool):R2:=fun x y H Q=>∃ a kvs k,y=.ref a/\x=kV k/\DK X.prog X.w X.K H a kvs/\Q (.bl (if neg then !(valV kvs k).isSome else (valV kvs k).isSome)) H
theorem kH:OpR X (compareOp .In) (rInD X false):=by
 intro pins s σ H x y v u Q I rx ry h;obtain ⟨a,kvs,k,rfl,rfl,dk,q⟩:=h;obtain rfl:u=Value.ref a:=ry;obtain ⟨hd,vs,rel,dd⟩:=I.dict dk;refine wpAny_in_of (cS rx) hd dd.mapOf ?_;rw [<- (rel.val k).isSome_eq];exact ⟨.bl (valV kvs k).isSome,H,I.tok _,rfl,q⟩
theorem su:OpR X (compareOp .NotIn) (rInD X true):=by
 intro pins s σ H x y v u Q I rx ry h;obtain ⟨a,kvs,k,rfl,rfl,dk,q⟩:=h;obtain rfl:u=Value.ref a:=ry;obtain ⟨hd,vs,rel,dd⟩:=I.dict dk;refine wpAny_notIn_of (cS rx) hd dd.mapOf ?_;rw [<- (rel.val k).isSome_eq];exact ⟨.bl (!(valV kvs k).isSome),H,I.tok _,rfl,q⟩
end
theorem kI {P:Program}{w:World}{K:PySem.W.Frag}{a:Addr}{od:Option Addr}{ep:Nat}{sl:Array (Option Value)}{es:Array DictEntry} (xs:List (Str × Tok × Value)) (vs:List V)
  (l:K.lookup a=some ⟨.type "dict",od,.dict es ep,sl⟩) (he:es.toList=xs.map (ent w)) (hx:(⟨.type "dict",od,.dict es ep,sl⟩:Obj).ExactDict) (ns:(a == sysModules)=false)
  (nd:(xs.map (·.1)).Nodup) (hv:Vals vs (xs.map (·.2.2))):KD P w K a ((xs.map fun x=>(Sum.inr x.1:Key)).zip vs):=by
 refine ⟨⟨_,es,ep,xs.map fun x=>(Sum.inr x.1,x.2.2),l,hx,rfl,?_,?_,?_,?_⟩,ns⟩
 ·intro e h
  rw [<- Array.mem_toList_iff,he] at h;obtain ⟨x,hx,rfl⟩:=Aa.mp h;exact ⟨Sum.inr x.1,hV x.1 x.2.1,rfl⟩
 ·rw [he]
  clear he nd hv l hx
  induction xs with
  | nil=>exact .nil
  | cons x xs ih=>exact .cons (hV x.1 x.2.1) rfl ih
 ·rw [List.map_map]
  have e:(xs.map (fun x=>(Sum.inr x.1:Key)))=(xs.map (·.1)).map Sum.inr:=by rw [List.map_map]; rfl
  show (xs.map (fun x=>(Sum.inr x.1:Key))).Nodup
  rw [e];exact List.Pairwise.map _ (fun a b h z=>h (Sum.inr.inj z)) nd
 ·clear he nd l hx
  induction xs generalizing vs with
  | nil=>cases hv; exact .nil
  | cons x xs ih =>
   cases hv with
   | cons r rr=>exact .cons ⟨rfl,r⟩ (ih _ rr)
end L2

namespace L2
open PySem PySem.Spec PyProof.Rows
variable{i:Nat}{x:Str}{pos p:Pos}{v:V}{op:CmpOp}{c e l a b tg:Expr}{X:Cx}{es:List Expr}{te:TE}{g:TG}{body:List Stmt}
structure Pr (p:Prop):Prop where
 h:p
section
variable {X:Cx}
theorem kJ (hN:X.N[i]?=some x) (hv:Vis X.env.scope x) (hd:(x == ("__debug__" : Str))=false:=by decide) (hcd:(x == ("__classdict__" : Str))=false:=by decide):Pr (PE X (.Name x pos) (tVar i)):=⟨oI hN hv hd hcd⟩
theorem ag {i j pos}:Pr (PE X (.Constant (.int i) j pos) (tC (.int i))):=⟨oJ⟩
theorem bz {b j pos}:Pr (PE X (.Constant (.bool b) j pos) (tC (.bl b))):=⟨oK⟩
theorem cH {j pos}:Pr (PE X (.Constant .none j pos) (tC .non)):=⟨oN⟩
theorem aq {x j pos}:Pr (PE X (.Constant (.str x) j pos) (tC (.str x))):=⟨oO⟩
theorem eX{v:V}{u:Value} (hg:Gl X x) (hm:X.mg x=some u) (r:RelV v u) (hd:(x == ("__debug__" : Str))=false:=by decide):Pr (PE X (.Name x pos) (tC v)):=⟨oP hg hm r hd⟩
theorem eD{v:V}{u:Value} (hg:Gl X x) (hm:X.mg x=none) (hv:bootBuiltins x=some u) (r:RelV v u) (hn:x ≠ "__name__" := by decide) (hd:(x == ("__debug__" : Str))=false:=by decide):Pr (PE X (.Name x pos) (tC v)):=⟨oQ hg hm hv r hn hd⟩
end
section
variable {X:Cx}{a b c:Expr}{ta tb tc:TE}{pos:Pos}
theorem ar {op:Operator}{r:R2} (ho:OpR X (binaryOp op) r) (ha:Pr (PE X a ta)) (hb:Pr (PE X b tb)):Pr (PE X (.BinOp a op b pos) (tOp r ta tb)):=⟨pT ho ha.h hb.h⟩
theorem sv {op:UnaryOp}{r:V->Hp->VK->Prop} (ho:UnR X (unaryOp op) r) (ha:Pr (PE X a ta)):Pr (PE X (.UnaryOp op a pos) (tUn r ta)):=⟨pU ho ha.h⟩
theorem bo{r:R2} (ho:OpR X (compareOp op) r) (ha:Pr (PE X a ta)) (hb:Pr (PE X b tb)) (hm:behindInMarks op b=false):Pr (PE X (.Compare a [op] [b] pos) (tOp r ta tb)):=⟨pX ho ha.h hb.h hm⟩
theorem sx {op':CmpOp}{r r':R2} (ho:OpR X (compareOp op) r) (ho':OpR X (compareOp op') r') (ha:Pr (PE X a ta)) (hb:Pr (PE X b tb)) (hc:Pr (PE X c tc)) (hm:lastMarks [op,op'] [b,c]=false:=by with_unfolding_all rfl):Pr (PE X (.Compare a [op,op'] [b,c] pos) (tChain r r' ta tb tc)):=⟨pZ ho ho' ha.h hb.h hc.h hm⟩
end
section
variable {X:Cx}
variable {a b:Expr}{ta tb:TE}{pos:Pos}
variable {tA tB':TT}{rest:List Expr}
theorem bp (ha:Pr (PE X a ta)) (hb:Pr (PE X (.BoolOp .And (b :: rest) pos) tb)):Pr (PE X (.BoolOp .And (a :: b :: rest) pos) (tAndV ta tb)):=⟨oY ha.h hb.h⟩
end
section
variable {X:Cx}
variable {a b:Expr}{ta tb:TE}{pos:Pos}
variable {tA tB':TT}{rest:List Expr}
theorem dm (ha:Pr (PE X a ta)) (hb:Pr (PE X (.BoolOp .Or (b :: rest) pos) tb)):Pr (PE X (.BoolOp .Or (a :: b :: rest) pos) (tOrV ta tb)):=⟨oZ ha.h hb.h⟩
end
section
variable {X:Cx}
variable {a b:Expr}{ta tb:TE}{pos:Pos}
variable {tA tB':TT}{rest:List Expr}
theorem bc {op}{t:TE} (h:Pr (PE X a t)):Pr (PE X (.BoolOp op [a] pos) t):=⟨oX h.h⟩
end
section
variable {X:Cx}
variable {a b:Expr}{ta tb:TE}{pos:Pos}
variable {tA tB':TT}{rest:List Expr}
theorem sy (ha:Pr (PE X a ta)):Pr (PE X (.UnaryOp .Not a pos) (tNotV ta)):=⟨o4 ha.h⟩
end
section
variable {X:Cx}
variable {a b:Expr}{ta tb:TE}{pos:Pos}
variable {tA tB':TT}{rest:List Expr}
theorem fZ (hc:Pr (PT X c tA)) (ha:Pr (PE X a ta)) (hb:Pr (PE X b tb)):Pr (PE X (.IfExp c a b pos) (tIf tA ta tb)):=⟨o5 hc.h ha.h hb.h⟩
end
section
variable {X:Cx}{e:Expr}{es:List Expr}{te:TE}{t:TA}{pos:Pos}
theorem aD {x1} (h:Pr (PA X es t)):Pr (PE X (.Tuple es x1 pos) (tTup t)):=⟨qr h.h⟩
theorem bD (h:Pr (PA X es t)):Pr (PE X (.List es pos) (tLst t)):=⟨qt h.h⟩
end
section
variable {X:Cx}{e:Expr}{te:TE}{lo hi:Option Expr}{tl th:TO}{pos p2:Pos}
theorem gc {r:V->Option Int->Option Int->Hp->VK->Prop} (hr:SlR X r) (he:Pr (PE X e te)) (hl:Pr (PO X lo tl)) (hu:Pr (PO X hi th)):Pr (PE X (.Subscript e (.Slice lo hi none p2) pos) (tSl r te tl th)):=⟨qO hr he.h hl.h hu.h⟩
end
section
variable {X:Cx}{a b:Expr}{ta tb:TE}{pos:Pos}
theorem ak {r:R2} (hr:IxR X r) (ha:Pr (PE X a ta)) (hb:Pr (PE X b tb)) (hs:PlainIx b):Pr (PE X (.Subscript a b pos) (tOp r ta tb)):=⟨qQ hr ha.h hb.h hs⟩
end
section
variable {X:Cx}
theorem iu {o i:Expr}{td ty:TE} (ho:Pr (PE X o td)) (hi:Pr (PE X i ty)) (hs:NoSl i):Pr (PE X (.Subscript o i pos) (tOp (rIxD X) td ty)):=⟨sr ho.h hi.h hs⟩
end
section
variable {X:Cx}{o e value:Expr}{f:Str}{pos pos' tpos:Pos}{ta tv:TE}
theorem aT (he:Pr (PE X e ta)) (hb:attributeBase e f X.env (eval e X.env)=eval e X.env):Pr (PE X (.Attribute e f pos) (tFld X.K ta f)):=⟨jY he.h hb⟩
end
section
variable {X:Cx}{CX:CXT}{k:Nat}{ps:List Str}{sp:Sp}{E:XK}{x:Str}{p pos:Pos}{e:Expr}{es:List Expr}{t:TA}
theorem av (D:DefOk X.prog X.w X.K X.mg X.base CX k x ps sp) (hr:Room k X.A) (hg:Gl X x) (hx:Passes CX X E) (ha:Pr (PA X (e :: es) t)) (hdb:(x == ("__debug__" : Str))=false:=by decide) (he:starEach (e :: es) X.env=(false,eval e X.env) :: starEach es X.env:=by rfl) (hpl:(backTo pos (starEach es X.env)).any (·.1)=false:=by rfl):Pr (PE X (.Call (.Name x p) (e :: es) [] pos) (tCall sp [] E t)):=⟨rQ D hr hg hx ha.h hdb he hpl⟩
end
section
variable {X:Cx}{x:Str}{p pos:Pos}{e:Expr}{es:List Expr}{t:TA}{id T:String}{r:List V->Hp->VK->Prop}
theorem aF (hc:CallR X (.builtin id) r) (hg:Gl X x) (hm:X.mg x=none) (hv:bootBuiltins x=some (.builtin id)) (ha:Pr (PA X (e :: es) t)) (hn:x ≠ "__name__" := by decide) (hdb:(x == ("__debug__" : Str))=false:=by decide) (he:starEach (e :: es) X.env=(false,eval e X.env) :: starEach es X.env:=by rfl) (hpl:(backTo pos (starEach es X.env)).any (·.1)=false:=by rfl):Pr (PE X (.Call (.Name x p) (e :: es) [] pos) (tCB r t)):=⟨qF hc hg hm hv ha.h hn hdb he hpl⟩
theorem bQ (hc:CallR X (.type T) r) (hg:Gl X x) (hm:X.mg x=none) (hv:bootBuiltins x=some (.type T)) (ha:Pr (PA X (e :: es) t)) (hn:x ≠ "__name__" := by decide) (hdb:(x == ("__debug__" : Str))=false:=by decide) (he:starEach (e :: es) X.env=(false,eval e X.env) :: starEach es X.env:=by rfl) (hpl:(backTo pos (starEach es X.env)).any (·.1)=false:=by rfl):Pr (PE X (.Call (.Name x p) (e :: es) [] pos) (tCB r t)):=⟨qG hc hg hm hv ha.h hn hdb he hpl⟩
end
section
variable {X:Cx}{a b:Expr}{ta tb:TE}{pos:Pos}
variable {o e:Expr}{es:List Expr}{to:TE}{t:TA}{name:Str}{apos cpos:Pos}{T id:String}{r:V->List V->Hp->VK->Prop}
theorem cm (pa:PlainAttrs T) (slot:Slot T name id) (hty:typeOf (.builtin id)=pure (.type "method_descriptor")) (hm:MtR X id r) (ho:Pr (PE X o to)) (ha:Pr (PA X (e :: es) t)) (hbase:attributeBase o name X.env (eval o X.env)=eval o X.env:=by rfl) (hfew:((backTo cpos (starEach (e :: es) X.env)).all (fun x=>!x.1) && (backToKw cpos (keywordEach [] X.env)).all (fun x=>x.1.isSome)
   && decide ((e :: es).length + ([]:List Keyword).length + (if ([]:List Keyword).isEmpty then 0 else 1) < 30))=true:=by rfl) (hline:(apos.endLine == cpos.line)=true:=by rfl) (hs:starEach (e :: es) X.env=(false,eval e X.env) :: starEach es X.env:=by rfl) (hplain:(backTo cpos (starEach es X.env)).any (·.1)=false:=by rfl):Pr (PE X (.Call (.Attribute o name apos) (e :: es) [] cpos) (tBM X.K T r to t)):=⟨ke pa slot hty hm ho.h ha.h hbase hfew hline hs hplain⟩
end
section
variable {X:Cx}{a b c:Expr}{ta tb tc:TE}{pos:Pos}
theorem ay{r:R2} (ho:OpR X (compareOp op) r) (ha:Pr (PE X a ta)) (hb:Pr (PE X b tb)) (hm:behindInMarks op b=false):Pr (PT X (.Compare a [op] [b] pos) (tTest (tOp r ta tb))):=⟨pY ho ha.h hb.h hm⟩
end
section
variable {X:Cx}
variable {a b:Expr}{ta tb:TE}{pos:Pos}
variable {tA tB':TT}{rest:List Expr}
theorem bW (ha:Pr (PT X a tA)):Pr (PT X (.UnaryOp .Not a pos) (tNot tA)):=⟨oW ha.h⟩
end
section
variable {X:Cx}
variable {a b:Expr}{ta tb:TE}{pos:Pos}
theorem aU{t:TE} (h:Pr (PE X e t)) (he:∀ whole,isTrue e X.env whole=(do let v <- whole; standAt e.pos; holding [v] (truthy v)):=by intro _; rfl):Pr (PT X e (tB t)):=⟨oR h.h he⟩
end
section
theorem br{t:TT} (h:Pr (PW X e t)):Pr (PT X e t):=⟨PW.pt h.h⟩
end
section
variable {X:Cx}
variable {a b:Expr}{ta tb:TE}{pos:Pos}
variable {tA tB':TT}{rest:List Expr}
theorem bZ (ha:Pr (PT X a tA)) (hb:Pr (PW X (.BoolOp .And (b :: rest) pos) tB')):Pr (PW X (.BoolOp .And (a :: b :: rest) pos) (tAnd tA tB')):=⟨oU ha.h hb.h⟩
end
section
variable {X:Cx}
variable {a b:Expr}{ta tb:TE}{pos:Pos}
variable {tA tB':TT}{rest:List Expr}
theorem cI (ha:Pr (PT X a tA)):Pr (PW X (.BoolOp .And [a] pos) tA):=⟨oS ha.h⟩
end
section
variable {X:Cx}
variable {a b:Expr}{ta tb:TE}{pos:Pos}
variable {tA tB':TT}{rest:List Expr}
theorem bK (ha:Pr (PT X a tA)) (hb:Pr (PW X (.BoolOp .Or (b :: rest) pos) tB')):Pr (PW X (.BoolOp .Or (a :: b :: rest) pos) (tOr tA tB')):=⟨oV ha.h hb.h⟩
end
section
variable {X:Cx}
variable {a b:Expr}{ta tb:TE}{pos:Pos}
variable {tA tB':TT}{rest:List Expr}
theorem bR (ha:Pr (PT X a tA)):Pr (PW X (.BoolOp .Or [a] pos) tA):=⟨oT ha.h⟩
end
section
variable {X:Cx}{e:Expr}{es:List Expr}{te:TE}{t:TA}{pos:Pos}
theorem ab  : Pr (PA X [] tNil):=⟨qp⟩
theorem aa (ha:Pr (PE X e te)) (hr:Pr (PA X es t)) (hs:starEach (e :: es) X.env=(false,eval e X.env) :: starEach es X.env:=by rfl):Pr (PA X (e :: es) (tCons te t)):=⟨qq ha.h hr.h hs⟩
end
section
variable {X:Cx}{e:Expr}{te:TE}{lo hi:Option Expr}{tl th:TO}{pos p2:Pos}
theorem gf  : Pr (PO X none tNoPart):=⟨qM⟩
theorem gh (h:Pr (PE X e te)):Pr (PO X (some e) (tPart te)):=⟨qN h.h⟩
end
section
variable {X:Cx}{tg:Expr}
theorem cf{tl:TE} (hl:Pr (PE X l tl)):Pr (PI X tg l (iList X.K tl)):=⟨pL hl.h⟩
theorem eY{tl:TE} (hl:Pr (PE X l tl)):Pr (PI X tg l (iTup X.K tl)):=⟨pM hl.h⟩
theorem cU{ta:TA} (hg:Gl X "range") (hm:X.mg "range" = none) (ha:Pr (PA X [a] ta)) (hs:starEach [a] X.env=[(false,eval a X.env)]:=by rfl):Pr (PI X tg (.Call (.Name "range" p) [a] [] pos) (iRng1 ta)):=⟨pN hg hm ha.h hs⟩
theorem sA{ta:TA} (hg:Gl X "range") (hm:X.mg "range" = none) (ha:Pr (PA X [a,b] ta)) (hs:starEach [a,b] X.env=[(false,eval a X.env),(false,eval b X.env)]:=by rfl) (hs2:starEach [b] X.env=[(false,eval b X.env)]:=by rfl):Pr (PI X tg (.Call (.Name "range" p) [a,b] [] pos) (iRng2 ta)):=⟨pO hg hm ha.h hs hs2⟩
end
section
variable {X:Cx}{elts:List Expr}{kk:Nat}{tpos:Pos}
theorem eE (k1 k2:SK){ta:TA} (hg:Gl X "zip") (hm:X.mg "zip" = none) (ha:Pr (PA X [a,b] ta)) (hs:starEach [a,b] X.env=[(false,eval a X.env),(false,eval b X.env)]:=by rfl) (hs2:starEach [b] X.env=[(false,eval b X.env)]:=by rfl):Pr (PI X (.Tuple elts kk tpos) (.Call (.Name "zip" p) [a,b] [] pos) (iZip X.K k1 k2 ta)):=⟨se k1 k2 hg hm ha.h hs hs2⟩
end
section
variable {X:Cx}{pos:Pos}
theorem aG {i:Nat} (hN:X.N.Nodup) (hi:X.N[i]?=some x) (hx:Loc X.env.scope x) (hf:X.fn x=true\/X.env.scope.names.lookup x=some .local:=by first | exact .inl rfl | exact .inr rfl | assumption):Pr (PG X (.Name x pos) (gName i)):=⟨pA hN hi hx hf⟩
theorem bS  : Pr (PGs X [] gNil):=⟨pB⟩
theorem aX{t:TG}{u:TGs} (h1:Pr (PG X e t)) (h2:Pr (PGs X es u)) (hs:(assignEach (e :: es) X.env).map (·.2)=assign e X.env :: (assignEach es X.env).map (·.2):=by rfl):Pr (PGs X (e :: es) (gCons t u)):=⟨pC h1.h h2.h hs⟩
theorem cg{k:Nat}{t:TGs}{n:Nat} (hc:X.calm=true) (h:Pr (PGs X es t)) (hn:(assignEach es X.env).length=n:=by rfl) (hst:(assignEach es X.env).findIdx? (·.1)=none:=by rfl):Pr (PG X (.Tuple es k pos) (gTup X.K n t)):=⟨jK hc h.h hn hst⟩
theorem cQ {o i:Expr}{to ti:TE}{t:TSet} (ho:Pr (PE X o to)) (hi:Pr (PE X i ti)) (hs:PSet X t) (ha:∀ v,assign (.Subscript o i pos) X.env v=(do
   let ov <- holding [v] (eval o X.env)
   let iv <- holding [v,ov] (eval i X.env)
   standAt pos
   holding [v,ov,iv] (setItem ov iv v)
   release [v,ov,iv] []):=by intro _; rfl):Pr (PG X (.Subscript o i pos) (gSub to ti t)):=⟨pD ho.h hi.h hs ha⟩
end
section
variable {X:Cx}{st:Stmt}{rest:List Stmt}{t u:TS}{e:Expr}{te:TE}{pos:Pos}
theorem au (he:Pr (PE X e te)):Pr (PS X (.Return (some e) pos) (tRet te)):=⟨pe he.h⟩
end
section
variable {X:Cx}{pos:Pos}
theorem aE {i:Nat}{pos':Pos} (hN:X.N.Nodup) (hi:X.N[i]?=some x) (hx:Loc X.env.scope x) (he:Pr (PE X e te)) (hs:swapsWith e (some (.Name x pos')) pos.line X.env=pure false:=by rfl) (hf:X.fn x=true\/X.env.scope.names.lookup x=some .local:=by first | exact .inl rfl | exact .inr rfl | assumption):Pr (PS X (.Assign [.Name x pos'] e pos) (tAsg te (gName i))):=⟨pF hN hi hx he.h hs hf⟩
theorem bX (he:Pr (PE X e te)) (hg:Pr (PG X tg g)) (hs:swapsWithSole [tg] e pos.line X.env=pure false:=by rfl) (hw:swappedStores [tg] e X.env=pure none:=by rfl) (h1:(assignEach [tg] X.env).map (·.2)=[assign tg X.env]:=by rfl):Pr (PS X (.Assign [tg] e pos) (tAsg te g)):=⟨pE he.h hg.h hs hw h1⟩
end
section
variable {X:Cx}{st:Stmt}{rest:List Stmt}{t u:TS}{e:Expr}{te:TE}{pos:Pos}
theorem aw{a b:List Stmt}{tc:TT} (hc:Pr (PT X c tc)) (ha:Pr (PSs X a t)) (hb:Pr (PSs X b u)):Pr (PS X (.If c a b pos) (tIfS tc t u)):=⟨pf hc.h ha.h hb.h⟩
end
section
theorem bB{iter:Expr}{wi:TI}{tb:TS} (hp:PassesOwn (model X.prog X.w) X.A X.env X.xe) (hc:X.calm=true) (hi:Pr (PI X tg iter wi)) (hg:Pr (PG X tg g)) (hb:Pr (PSs X body tb)) (hs:∀ x,foldedSetIterable iter X.env x=pure x:=by intro _; rfl):Pr (PS X (.For tg iter body [] pos) (tLoop wi g tb)):=⟨rR hp hc hi.h hg.h hb.h hs⟩
end
section
variable {X:Cx}{pos:Pos}
theorem sC{tc:TT}{tb:TS} (hp:PassesOwn (model X.prog X.w) X.A X.env X.xe) (hc:Pr (PT X c tc)) (hb:Pr (PSs X body tb)):Pr (PS X (.While c body [] pos) (tWhile tc tb)):=⟨pG hp hc.h hb.h⟩
end
section
variable {X:Cx}{st:Stmt}{rest:List Stmt}{t u:TS}{e:Expr}{te:TE}{pos:Pos}
theorem bM (he:Pr (PE X e te)) (hs:swapsWith e none pos.line X.env=pure false:=by rfl):Pr (PS X (.Expr e pos) (tDrop te)):=⟨o9 he.h hs⟩
theorem sD  : Pr (PS X (.Continue pos) tCont):=⟨o8⟩
theorem az  : Pr (PSs X [] tNext):=⟨o6⟩
theorem ai (h1:Pr (PS X st t)):Pr (PSs X [st] t):=⟨o7 h1.h⟩
theorem aj (h1:Pr (PS X st t)) (h2:Pr (PSs X rest u)):Pr (PSs X (st :: rest) (tSeq t u)):=⟨jJ h1.h h2.h⟩
end
section
theorem bG{st:Stmt}{rest:List Stmt}{t u:TS} (h1:Pr (PS X st t)) (h2:Pr (PSs X rest u)):Pr (PSs X (st :: rest) (tCut t u)):=⟨rT h1.h h2.h⟩
end
section
variable {X:Cx}{o e value:Expr}{f:Str}{pos pos' tpos:Pos}{ta tv:TE}
theorem cR (ha:Pr (PE X o ta)) (hv:Pr (PE X value tv)) (hs:swapsWith value (some (.Attribute o f pos')) pos.line X.env=pure false):Pr (PS X (.Assign [.Attribute o f pos'] value pos) (sFld X.K ta tv f)):=⟨qj ha.h hv.h hs⟩
end
end L2

namespace L2
open PySem PySem.Spec PyProof.Rows
def relab (sc outer:Scope):Scope :=
 { sc with names:=sc.names.map fun (n,k)=>if (k == .free && outer.kind == .function && outer.names.lookup n == some .cell) then (n,.cell) else (n,k) }
structure CompOk (sc outer:Scope) (own:List Str) (N:List Str) (fr:List Nat) (N':List Str):Prop where
 kind:sc.kind=.function
 nocell:∀ y∈sc.names,y.2≠.cell
 loc:∀ y∈sc.names,y.2=.local->sc.names.lookup y.1=some .local
 fre:∀ y∈sc.names,y.2=.free->outer.names.lookup y.1=some .cell\/outer.names.lookup y.1=some .free
 nd:N'.Nodup
 all:N'.map some=own.map some++fr.map fun j=>N[j]?
 frk:∀ j∈fr,∀ x,N[j]?=some x->sc.names.lookup x=some .free/\(outer.names.lookup x=some .cell\/outer.names.lookup x=some .free)
def cst (n:Nat) (fr:List Nat) (σ:St):St:=List.replicate n none++fr.map fun j=>(σ[j]?).join
theorem kK {env:Env}{sc:Scope} (h:∀ y∈sc.names,y.2=.free->∃ c,env.cells.lookup y.1=some c) :
  ∃ cl,closureFor sc env=pure cl/\(∀ x c,cl.lookup x=some c->env.cells.lookup x=some c)/\∀ y∈sc.names,y.2=.free->∃ c,cl.lookup y.1=some c:=by
 have key:∀ (l:List (Str × NameKind)) (cs:List (Str × Addr)),(∀ y∈l,y.2=.free->∃ c,env.cells.lookup y.1=some c)->(∀ x c,cs.lookup x=some c->env.cells.lookup x=some c) ->
   ∃ cl,(forIn l cs fun x r=>if (x.2 == NameKind.free)=true then do let a <- cellOf env x.1; pure (ForInStep.yield ((x.1,a) :: r)) else pure (ForInStep.yield r))=(pure cl:Sem _)/\(∀ x c,cl.lookup x=some c->env.cells.lookup x=some c) /\
    (∀ x,(∃ c,cs.lookup x=some c)->∃ c,cl.lookup x=some c)/\∀ y∈l,y.2=.free->∃ c,cl.lookup y.1=some c:=by
  intro l
  induction l with
  | nil=>intro cs _ h2; exact ⟨cs,rfl,h2,fun _ z=>z,fun y hy=>nomatch hy⟩
  | cons y l ih =>
   intro cs h1 h2;obtain ⟨n,k⟩:=y
   by_cases hk:k=.free
   ·subst hk
    obtain ⟨c,hc⟩:=h1 (n,.free) An rfl;obtain ⟨cl,e,a,b,d⟩:=ih ((n,c) :: cs) (fun y hy=>h1 y (Ah _ hy)) (fun x c' hx=>by
     rw [Ab] at hx
     split at hx
     ·rename_i q
      have:x=n:=by simpa using q
      cases hx; subst this; exact hc
     ·exact h2 x c' hx)
    refine ⟨cl,?_,a,fun x ⟨c',hx⟩=>b x ?_,fun y hy hf=>?_⟩
    ·rw [AS]
     have e1:cellOf env n=pure c:=by unfold cellOf; rw [hc]
     simp only [beq_self_eq_true,if_true,e1,pure_bind];exact e
    ·rw [Ab]
     split
     ·exact ⟨_,rfl⟩
     ·exact ⟨c',hx⟩
    ·rcases yZ.mp hy with rfl | hy
     ·exact b n ⟨c,by simp [Ab]⟩
     ·exact d y hy hf
   ·obtain ⟨cl,e,a,b,d⟩:=ih cs (fun y hy=>h1 y (Ah _ hy)) h2
    refine ⟨cl,?_,a,b,fun y hy hf=>?_⟩
    ·rw [AS]
     have hb:(k == NameKind.free)=false:=by simpa using hk
     simp only [hb,Bool.false_eq_true,if_false,pure_bind];exact e
    ·rcases yZ.mp hy with rfl | hy
     ·exact absurd hf hk
     ·exact d y hy hf
 obtain ⟨cl,e,a,_,d⟩:=key sc.names [] h (fun x c hx=>by simp at hx)
 refine ⟨cl,?_,a,d⟩;unfold closureFor;simp only [e,pure_bind]
def cxC (X:Cx) (sc:Scope) (cl:List (Str × Addr)) (N':List Str) (C:Addr) (s:Shared) (H:Hp) (fp:List Addr):Cx :=
 { X with N:=N',s₀:=s,H₀:=H,env:=compEnvC sc cl C X.env,outer:=X.stack,stack:=X.stack,ex:=fp,fn:=fun _=>false,pn:=[],xe:=fun _ _=>False }
theorem gi {outer:Scope}:∀ {names:List (Str × NameKind)}{x:Str}{k:NameKind},
  (names.map fun (n,k)=>if (k == NameKind.free && outer.kind == .function && outer.names.lookup n == some .cell) then (n,NameKind.cell) else (n,k)).lookup x=some k ->
   names.lookup x=some k\/(names.lookup x=some .free/\k=.cell)
 | [],x,k,h=>by simp at h
 | (n,k') :: r,x,k,h=>by
  rw [zG] at h
  by_cases hc:(k' == NameKind.free && outer.kind == .function && outer.names.lookup n == some .cell)=true
  ·simp only [hc,if_true] at h
   rw [Ab] at h ⊢;cases hx:x == n with
   | true =>
    rw [hx] at h;simp only [Option.some.injEq] at h;have hf:k'=.free:=by
     have:=(Bool.and_eq_true_iff.mp (Bool.and_eq_true_iff.mp hc).1).1
     simpa using this
    exact .inr ⟨by simp [hf],h.symm⟩
   | false=>rw [hx] at h; exact gi h
  ·simp only [hc,Bool.false_eq_true,if_false] at h
   rw [Ab] at h ⊢;cases hx:x == n with
   | true=>rw [hx] at h; exact .inl (by simpa using h)
   | false=>rw [hx] at h; exact gi h
theorem iw {outer:Scope}:∀ {names:List (Str × NameKind)}{x:Str},names.lookup x=some .free ->
  (names.map fun (n,k)=>if (k == NameKind.free && outer.kind == .function && outer.names.lookup n == some .cell) then (n,NameKind.cell) else (n,k)).lookup x=some .cell \/
  (names.map fun (n,k)=>if (k == NameKind.free && outer.kind == .function && outer.names.lookup n == some .cell) then (n,NameKind.cell) else (n,k)).lookup x=some .free
 | [],x,h=>by simp at h
 | (n,k') :: r,x,h=>by
  rw [Ab] at h;rw [zG]
  by_cases hc:(k' == NameKind.free && outer.kind == .function && outer.names.lookup n == some .cell)=true
  ·simp only [hc,if_true]
   rw [Ab];cases hx:x == n with
   | true=>exact .inl rfl
   | false=>rw [hx] at h; exact iw h
  ·simp only [hc,Bool.false_eq_true,if_false]
   rw [Ab];cases hx:x == n with
   | true=>rw [hx] at h; exact .inr h
   | false=>rw [hx] at h; exact iw h
theorem gj {α:Type}:∀ {l:List (Str × α)}{x:Str}{k:α},l.lookup x=some k->(x,k)∈l
 | [],_,_,h=>by simp at h
 | (n,k') :: r,x,k,h=>by
  rw [Ab] at h;cases hx:x == n with
  | true =>
   rw [hx] at h;have e:x=n:=by simpa using hx
   have e2:k'=k:=by simpa using h
   rw [e,e2]; exact An
  | false=>rw [hx] at h; exact Ah _ (gj h)
section
variable {X:Cx}{pins:List (Addr × Obj)}{σ:St}{H:Hp}{s:Shared}{sc:Scope}{own:List Str}{fr:List Nat}{N':List Str}{cl:List (Str × Addr)}
theorem sE (I:Inv X pins σ H s) (cs:CompOk sc X.env.scope own X.N fr N') (h1:∀ x c,cl.lookup x=some c->X.env.cells.lookup x=some c) (h2:∀ y∈sc.names,y.2=.free->∃ c,cl.lookup y.1=some c)
  {fp:List Addr} (hf:∀ b∈fp,FpOk X pins H b/\∃ o,s.heap.get? b=some o) {h':Heap}{t':Nat}{C D:Addr}{o:Obj} (hC:s.heap.objs.size<=C) (hD:s.heap.objs.size<=D) (hDC:D≠C)
  (k:∀ b u,s.heap.get? b=some u->h'.get? b=some u) (hn:h'.Ns C fun _=>none) (hDo:h'.get? D=some o) (hd:∀ v,o.data≠.cell v) :
  Inv (cxC X sc cl N' C s H fp) [(D,o)] (cst own.length fr σ) H { s with heap:=h',toks:=t' }:=by
 have lt:∀ b u,s.heap.get? b=some u->b < s.heap.objs.size:=fun b u e=>yT e
 have fpC:∀ b∈fp,b≠C:=fun b hb z=>by
  obtain ⟨_,o,e⟩:=hf b hb;have:=lt b o e;rw [z] at this;exact absurd (zr this hC) (zN _)
 have lenN:N'.length=own.length + fr.length:=by
  have:=za List.length cs.all
  simpa using this
 refine ⟨⟨I.ok.mod,cs.kind,I.ok.glob,I.ok.blt,hC,fun x y c e1 e2=>I.ok.inj x y c (h1 x c e1) (h1 y c e2),fun x hx=>?_,fun x c z=>absurd z zj,I.ok.hd,I.ok.frames,.inl rfl,fun b hb=>⟨fpC b hb,fun x c e=>(hf b hb).1.2.2.2.2.1 x c (h1 x c e)⟩,
   I.bs,zy I.ok.bsz I.sz,fun b o' e hb=>?_,fun b hb z=>?_,I.stack,I.stkFree⟩,
  rfl,I.bare,Un.kept k,⟨_,hn,fun i x v e1 e2 e3=>?_⟩,fun x c e=>?_,I.hok.fresh hC,fun x c e=>I.freeC x c (h1 x c e),fun p hp=>?_,I.hok.kept k,?_⟩
 ·have hx':(relab sc X.env.scope).names.lookup x=some .cell\/(relab sc X.env.scope).names.lookup x=some .free:=hx
  have hfree:sc.names.lookup x=some .free:=by
   rcases hx' with z | z
   ·rcases gi z with q | q
    ·exact absurd rfl (cs.nocell _ (gj q))
    ·exact q.1
   ·rcases gi z with q | q
    ·exact q
    ·exact q.1
  exact h2 (x,.free) (gj hfree) rfl
 ·have q:=(hf b hb).1.2.2.2.1
  rcases q with q | q
  ·exact I.ok.noex b o' e q
  ·exact absurd (zr (yT (I.ok.bs b o' e).1) q) (zN _)
 ·have z':b∈frs X.stack:=z
  rcases yZ.mp (I.stkSub b z') with q | q
  ·exact (hf b hb).1.2.1 q
  ·exact (hf b hb).1.2.2.1 q
 ·-- a name of the block at its entry is one of the def's
  have hi:own.length<=i:=by
   by_cases hi:i < own.length
   ·have e2':(cst own.length fr σ)[i]?=some none:=by
     unfold cst;rw [zb (by simpa using hi),AA,yN hi]
    rw [e2'] at e2; cases e2
   ·omega
  have e2':(fr.map fun j=>(σ[j]?).join)[i - own.length]?=some (some v):=by
   unfold cst at e2
   rwa [zw (by simpa using hi),AM] at e2
  rw [yY] at e2';have e1a:(N'.map some)[i]?=some (some x):=by
   have e1:N'[i]?=some x:=e1;rw [yY,e1]; rfl
  rw [cs.all,zw (by simpa using hi),yS,yY] at e1a
  cases ej:fr[i - own.length]? with
  | none=>rw [ej] at e2'; cases e2'
  | some j =>
   rw [ej] at e2' e1a;have hj:j∈fr:=zc ej;have nj:X.N[j]?=some x:=by simpa using e1a
   have sj:σ[j]?=some (some v):=by
    have:(σ[j]?).join=some v:=by simpa using e2'
    cases q:σ[j]? with
    | none=>rw [q] at this; cases this
    | some y=>rw [q] at this; simp at this; rw [this]
   obtain ⟨kf,ko⟩:=cs.frk j hj x nj;obtain ⟨m,hm,hl⟩:=I.loc;obtain ⟨u,r,l⟩:=hl j x v nj sj (.inr ko);refine ⟨u,r,.inr ?_⟩;have lk:X.env.kindOf x=some .cell\/X.env.kindOf x=some .free:=ko;rcases l with ⟨z,_⟩ | ⟨_,c,ec,ic⟩
   ·rcases lk with q | q <;> rw [z] at q <;> cases q
   ·obtain ⟨c',hc'⟩:=h2 (x,.free) (gj kf) rfl
    have:c'=c:=by
     have:=h1 x c' hc';rw [ec] at this; exact (zp this).symm
    subst this;refine ⟨iw kf,c',hc',?_⟩;obtain ⟨oc,hoc,hcd⟩:=ic;exact ⟨oc,k c' oc hoc,hcd⟩
 ·obtain ⟨v,oc,hoc,hcd⟩:=I.cell x c (h1 x c e)
  exact ⟨v,oc,k c oc hoc,hcd⟩
 ·have hp':p∈[(D,o)]:=hp
  have e:p=(D,o):=by simpa using hp'
  subst e;refine ⟨hDo,I.hok.fresh hD,hDC,fun z=>?_,hd⟩
  have z':D∈frs X.stack:=z;obtain ⟨_,o2,ho2,_⟩:=I.stack.mem z';exact absurd (zr (yT ho2) hD) (zN _)
 ·show (cst own.length fr σ).length=N'.length
  unfold cst;rw [zk,AM,yS,lenN]
theorem sF (I:Inv X pins σ H s) {fp:List Addr} (hf:∀ b∈fp,FpOk X pins H b/\∃ o,s.heap.get? b=some o) {C D:Addr}{its:List Value}{ys:List V}{n:Nat}{σ':St}{H':Hp}{s':Shared}
  (hD:s.heap.objs.size<=D) (J:Inv (cxC X sc cl N' C s H fp) [(D,{ cls:=.type "list",data:=.seq its.toArray n })] σ' H' s') (r:Vals ys its) (hz:ys.length<=sizeLine):Inv X pins σ (upd H' D (.lst ys)) s':=by
 obtain ⟨hDo,hDn,hDC,hDf,hDc⟩:=J.pin (D,{ cls:=.type "list",data:=.seq its.toArray n }) (zJ _ An);have u:Un (frs X.stack) fp H H' s.heap s'.heap:=J.base;have os:s'.os=s.os:=J.os;have lt:∀ b ob,s.heap.get? b=some ob->b≠D:=fun b ob e z=>by
  have:=yT e;rw [z] at this;exact absurd (zr this hD) (zN _)
 refine I.call' (ch:=fp) os ⟨u.keep,u.slot,fun b ob e n hx=>?_,u.there,fun b xs e=>?_,fun b ob x e=>?_,fun b ps e=>?_⟩ ?_ J.bare (fun b hb=>?_)
 ·rw [aR (lt b ob e)]; exact u.free b ob e n hx
 ·have:=u.tups b xs e
  rw [aR (aY this hDn)]; exact this
 ·have:=u.frzs b ob x e
  rw [aR (aY this hDn)]; exact this
 ·obtain ⟨m,q⟩:=u.tbls b ps e
  exact ⟨m,by rw [aR (aY q hDn)]; exact q⟩
 ·intro b ob e
  by_cases hb:b=D
  ·subst hb
   rw [ah] at e; cases e;exact ⟨hz,its,n,r,hDo⟩
  ·rw [aR hb] at e
   exact (J.hok b ob e).stay (fun c v _ q=>q) (fun c q=>by rw [aR (aY q hDn)]; exact q) fun c xs q=>by rw [aR (aY q hDn)]; exact q
 ·obtain ⟨_,f1,_,f3,f4,f5⟩:=(hf b hb).1
  exact ⟨f3,f1,f4,f5⟩
end
def PIf (X:Cx) (ifs:List Expr) (t:TT):Prop :=
 ∀ (pins:List (Addr × Obj)) (s:Shared) (σ:St) (H:Hp) (Q:Bool->Hp->Prop),Inv X pins σ H s->t σ H Q ->
  wpAny (model X.prog X.w) X.A (forIn ifs true fun c r=>if r=true then do let ok <- isTrue c X.env (eval c X.env); pure (ForInStep.yield ok) else pure (ForInStep.yield r)) (TP X pins σ Q) X.xe s
def tYes:TT:=fun _ H Q=>Q true H
theorem sG {X:Cx}:PIf X [] tYes:=fun _ _ _ H _ I h=>wpAny_tests_nil ⟨H,I,h⟩
theorem sH {X:Cx}{c:Expr}{t:TT} (h:PT X c t):PIf X [c] t:=fun pins s σ H Q I q=>wpAny_tests_one (h pins s σ H Q I q)
structure Comp (J:It) (g:TG) (tt:TT) (te:TE) (Q:List V->Hp->Prop) (σ:St) (H:Hp):Prop where
 ex:∃ W:Nat->Nat->List V->St->Hp->Prop,(∃ m,W 0 m [] σ H)/\∀ i m ys σ H,W i m ys σ H->ys.length < sizeLine /\
  ((J.stop i H/\Q ys H)\/(J.go i H/\∃ N:List V->St->Hp->Prop,(∀ ys' σ' H',N ys' σ' H'->∃ m',m' < m/\W (i + 1) m' ys' σ' H') /\
    ∀ x H',J.yld i H x H'->g x σ H' fun σ2 H2=>tt σ2 H2 fun b H3=>if b=true then te σ2 H3 fun y H4=>N (ys++[y]) σ2 H4 else N ys σ2 H3))
section
variable {prog:Program}{w:World}{A:Around}{R:Result->Shared->Prop}{s:Shared}
theorem sI {elt target iter:Expr}{ifs:List Expr}{scope:Scope}{pos:Pos}{it acc:Value}{env:Env} (I:Nat->Shared->Prop)
  (turn:∀ n s,I n s->wpAny (model prog w) A (pyNext it) (fun r s₁=>match r with
   | none=>R (.ok .next) s₁
   | some v=>wpAny (model prog w) A (letOwnedTupleGo target it v) (fun _ s₁=>wpAny (model prog w) A (assign target env v) (fun _ s₂ =>
     wpAny (model prog w) A (forIn ifs true fun c r=>if r=true then do let ok <- isTrue c env (eval c env); pure (ForInStep.yield ok) else pure (ForInStep.yield r)) (fun ok s₃ =>
      if ok=true then wpAny (model prog w) A (eval elt env) (fun x s₄ =>
       wpAny (model prog w) A (call (.builtin "list.append") [acc,x]) (fun _ s₅=>∃ m,m < n/\I m s₅) (fun _ _=>False) s₄) (fun _ _=>False) s₃
      else ∃ m,m < n/\I m s₃) (fun _ _=>False) s₂) (fun _ _=>False) s₁) (fun _ _=>False) s₁) (fun _ _=>False) s)
  (n:Nat) (h:I n s):codeAny (model prog w) A (.compLoop (.ListComp elt [⟨target,iter,ifs,0⟩] scope pos) 0 it acc env) R s:=by
 refine codeAny_loop rfl I (fun n s hI=>?_) n h
 show wpAny _ A ((compTurn (.ListComp elt [⟨target,iter,ifs,0⟩] scope pos) 0 it acc env).onRaise (fun x=>do noteFrame x env; theTreesLotGoes x)) _ _ s
 refine wpAny_noted (wpAny_noRaise ?_);rw [compTurn_list];refine yL (wpAny_standAt (yL (zA (turn n s hI) (fun r s₁ h₁=>?_) fun _ _ h'=>h')))
 cases r with
 | none=>exact yQ h₁
 | some v =>
  refine yL (zA h₁ (fun _ s₁ h₁=>?_) fun _ _ h'=>h')
  refine yL (zA h₁ (fun _ s₂ h₂=>yL (zA h₂ (fun ok s₃ h₃=>?_) fun _ _ h'=>h')) fun _ _ h'=>h')
  cases ok with
  | false=>exact yQ ⟨rfl,h₃⟩
  | true =>
   exact yL (yL (zA h₃ (fun x s₄ h₄=>yL (zA h₄ (fun _ s₅ h₅=>yQ (yQ ⟨rfl,h₅⟩)) fun _ _ h'=>h')) fun _ _ h'=>h'))
end
end L2

namespace L2
open PySem PySem.Spec PyProof.Rows
variable{K:PySem.W.Frag}{J:It}{fp:List Addr}{it a:Addr}{tn:Nat->Heap->Prop}{σ:St}{H:Hp}{g:TG}{tt:TT}{te:TE}{Q:List V->Hp->Prop}
structure TurnX (G:Cx->Prop) (P:Program) (w:World) (K:PySem.W.Frag) (tg:Expr) (J:It) (fp:List Addr) (it:Addr) (tn:Nat->Heap->Prop):Prop where
 obj:∀ i h,tn i h->∀ b∈fp,∃ o,h.get? b=some o/\∀ v,o.data≠.cell v
 keep:∀ i h h',tn i h->(∀ b∈fp,∀ o,h.get? b=some o->h'.get? b=some o)->tn i h'
 item:∀ (X:Cx),X.prog=P->X.w=w->X.K=K->G X->∀ (i:Nat) (pins:List (Addr × Obj)) (s:Shared) (σ:St) (H:Hp) (E:Value->Shared->Prop),Inv X pins σ H s->(∀ b∈fp,FpOk X pins H b)->tn i s.heap->J.go i H ->
  wpAny (model P w) X.A (pyNext (.ref it)) (fun r s1=>∃ u,r=some u /\
   wpAny (model P w) X.A (letOwnedTupleGo tg (.ref it) u) (fun _ s2=>∃ x H',Inv X pins σ H' s2/\RelV x u/\J.yld i H x H'/\tn (i + 1) s2.heap/\∀ b∈fp,H' b=none) E s1) E s
 done:∀ (X:Cx),X.prog=P->X.w=w->X.K=K->G X->∀ (i:Nat) (pins:List (Addr × Obj)) (s:Shared) (σ:St) (H:Hp) (E:Value->Shared->Prop),Inv X pins σ H s->(∀ b∈fp,FpOk X pins H b)->tn i s.heap->J.stop i H ->
  wpAny (model P w) X.A (pyNext (.ref it)) (fun r s1=>r=none/\Inv X pins σ H s1) E s
 self:∀ (A:Around) (i:Nat) (s:Shared) (Q:Value->Shared->Prop) (E:Value->Shared->Prop),tn i s.heap->Q (.ref it) s->wpAny (model P w) A (pyIter (.ref it)) Q E s
theorem Turn.x {P:Program}{w:World}{tg:Expr} (T:Turn P w K tg J fp it tn):TurnX (fun X=>X.calm=true) P w K tg J fp it tn:=⟨T.obj,T.keep,T.item,T.done,T.self⟩
section
variable {X:Cx}{sc:Scope}{own:List Str}{fr:List Nat}{N':List Str}{tg elt iter:Expr}{ifs:List Expr}{g:TG}{tt:TT}{te:TE}{wi:TI}{pos:Pos}
theorem kL {G:Cx->Prop}{pins:List (Addr × Obj)}{σ:St}{H:Hp}{s2:Shared}{it:Addr}{fp:List Addr}{tn:Nat->Heap->Prop}{J:It}{QQ:List V->Hp->Prop}{cl:List (Str × Addr)}{RR:Value->Addr->Result->Shared->Prop}{E:Value->Shared->Prop}
  (I2:Inv X pins σ H s2) (hc:∀ cl C s H fp,G (cxC X sc cl N' C s H fp)) (T:TurnX G X.prog X.w X.K tg J fp it tn) (st:tn 0 s2.heap) (f2:∀ b∈fp,FpOk X pins H b) (cs:CompOk sc X.env.scope own X.N fr N')
  (h1:∀ x c,cl.lookup x=some c->X.env.cells.lookup x=some c) (h2:∀ y∈sc.names,y.2=.free->∃ c,cl.lookup y.1=some c)
  (hg:∀ cl C s H fp,PG (cxC X sc cl N' C s H fp) tg g) (hif:∀ cl C s H fp,PIf (cxC X sc cl N' C s H fp) ifs tt) (he:∀ cl C s H fp,PE (cxC X sc cl N' C s H fp) elt te)
  (KK:Comp J g tt te QQ (cst own.length fr σ) H)
  (hRR:∀ D C m H' ys s',s2.heap.objs.size<=C->s'.heap.Ns C m->H' D=none->(upd H' D (.lst ys)) C=none->QQ ys H'->Inv X pins σ (upd H' D (.lst ys)) s'->RR (.ref D) C (.ok .next) s') :
  wpAny (model X.prog X.w) X.A (newList []) (fun acc s₃=>wpAny (model X.prog X.w) X.A (newFunctionEnv sc X.env.globals cl [] X.env.qual none .none (some X.env)) (fun cenv s₄ =>
   codeAny (model X.prog X.w) X.A (.compStart (.ListComp elt [⟨tg,iter,ifs,0⟩] sc pos) 0 (.ref it) acc { cenv with scope:=relabel sc X.env }) (RR acc cenv.locals) s₄) E s₃) E s2:=by
 refine AB (wpAny_newFunctionEnv cs.nocell (by intro y hy; simp at hy) (fun h₁ hns₁ hsb₁=>?_) cs.kind)
 dsimp only at hns₁ hsb₁ ⊢
 generalize hH2:s2.heap.push { cls:=.type "list",dict:=none,data:=.seq ([]:List Value).toArray }=H2 at hns₁ hsb₁ ⊢;have hC:H2.objs.size=s2.heap.objs.size + 1:=by rw [<- hH2,z8]
 have hDC:s2.heap.objs.size≠H2.objs.size:=by rw [hC]; exact y9 (A1 _)
 have hCle:s2.heap.objs.size<=H2.objs.size:=by rw [hC]; exact Nat.le_succ _
 have below:∀ b,b < s2.heap.objs.size->b≠H2.objs.size/\b≠s2.heap.objs.size:=fun b hb=>⟨by rw [hC]; exact y9 (Nat.lt_succ_of_lt hb),y9 hb⟩
 have old:∀ b o,s2.heap.get? b=some o->h₁.get? b=some o:=fun b o e=>hsb₁.extBut b o (below b (yT e)).1 (yW _ (hH2 ▸ yW _ e))
 have hacc:h₁.get? s2.heap.objs.size=some { cls:=.type "list",data:=.seq ([]:List Value).toArray 0 }:=hsb₁.extBut _ _ hDC (yW _ (hH2 ▸ zq _ rfl));have fpo:∀ b∈fp,FpOk X pins H b/\∃ o,s2.heap.get? b=some o:=fun b hb=>⟨f2 b hb,let ⟨o,e,_⟩:=T.obj 0 _ st b hb; ⟨o,e⟩⟩
 have st1:tn 0 h₁:=T.keep _ _ _ st fun b hb o e=>old b o e
 have hns:h₁.Ns H2.objs.size fun _=>none:=by simpa using hns₁
 obtain ⟨W,⟨m0,w0⟩,turn⟩:=KK.ex;have loop:∀ s₃:Shared,s₃={ s2 with heap:=h₁,toks:=s2.toks + ([]:List (Str × Value)).length } ->
   codeAny (model X.prog X.w) X.A (.compLoop (.ListComp elt [⟨tg,iter,ifs,0⟩] sc pos) 0 (.ref it) (.ref s2.heap.objs.size) (compEnvC sc cl H2.objs.size X.env)) (RR (.ref s2.heap.objs.size) H2.objs.size) s₃:=by
  rintro s₃ rfl;have J0:Inv (cxC X sc cl N' H2.objs.size s2 H fp) [(s2.heap.objs.size,{ cls:=.type "list",data:=.seq ([]:List Value).toArray 0 })] (cst own.length fr σ) H { s2 with heap:=h₁,toks:=s2.toks + ([]:List (Str × Value)).length } :=
   sE I2 cs h1 h2 fpo hCle (yP _) hDC old hns hacc (fun v z=>by cases z)
  have stat:∀ {pl:List (Addr × Obj)}{H':Hp},(∀ p∈pl,p.1=s2.heap.objs.size)->(∀ b∈fp,H' b=none)->∀ b∈fp,FpOk (cxC X sc cl N' H2.objs.size s2 H fp) pl H' b:=fun {pl H'} hpl hn b hb=>by
   obtain ⟨f,ob,e⟩:=fpo b hb;refine ⟨hn b hb,(below b (yT e)).1,fun z=>?_,.inl hb,fun x c ec=>f.2.2.2.2.1 x c (h1 x c ec),fun p hp=>?_⟩
   ·have z':b∈frs X.stack:=z
    rcases yZ.mp (I2.stkSub b z') with q | q
    ·exact f.2.1 q
    ·exact f.2.2.1 q
   ·have hp':p∈pl:=hp
    rw [hpl p hp'];exact yV (below b (yT e)).2
  have one:∀ (o:Obj),∀ p∈[(s2.heap.objs.size,o)],p.1=s2.heap.objs.size:=fun o p hp=>by
   have:p=(s2.heap.objs.size,o):=by simpa using hp
   rw [this]
  refine sI (env:=compEnvC sc cl H2.objs.size X.env) (fun n s'=>∃ i ys its k σ' H',Inv (cxC X sc cl N' H2.objs.size s2 H fp) [(s2.heap.objs.size,{ cls:=.type "list",data:=.seq (its:List Value).toArray k })] σ' H' s'/\tn i s'.heap/\(∀ b∈fp,H' b=none)/\Vals ys its/\W i n ys σ' H')
   ?_ m0 ⟨0,[],[],0,_,H,J0,st1,fun b hb=>(f2 b hb).1,.nil,w0⟩
  rintro n s3 ⟨i,ys,its,k,σ3,H3,I3,st3,fr3,rv,w3⟩;obtain ⟨hlen,alt⟩:=turn i n ys σ3 H3 w3;rcases alt with ⟨stop,qn⟩ | ⟨go,N,hN,step⟩
  ·refine zA (T.done (cxC X sc cl N' H2.objs.size s2 H fp) rfl rfl rfl (hc _ _ _ _ _) i _ s3 σ3 H3 (fun _ _=>False) I3 (stat (one _) fr3) st3 stop) (fun r s4 ⟨hr,I4⟩=>?_) fun _ _ z=>z
   subst hr;obtain ⟨m,hm,_⟩:=I4.loc;have hDn:H3 s2.heap.objs.size=none:=(I4.pin (s2.heap.objs.size,{ cls:=.type "list",data:=.seq its.toArray k }) (zJ _ An)).2.1;exact hRR _ _ m H3 ys s4 hCle hm hDn (by rw [aR (yV hDC)]; exact I4.free) qn (sF I2 fpo (yP _) I4 rv (zF hlen))
  ·refine zA (T.item (cxC X sc cl N' H2.objs.size s2 H fp) rfl rfl rfl (hc _ _ _ _ _) i _ s3 σ3 H3 (fun _ _=>False) I3 (stat (one _) fr3) st3 go) (fun r s4 ⟨u,hr,h4⟩=>?_) fun _ _ z=>z
   subst hr;refine zA h4 (fun _ s5 ⟨x,H5,I5,r5,y5,st5,fr5⟩=>?_) fun _ _ z=>z
   have I5':=I5.pinned (stat (one _) fr5) (T.obj _ _ st5);refine zA (hg cl H2.objs.size s2 H fp _ s5 σ3 H5 x u _ I5' r5 (step x H5 y5)) (fun _ s6 ⟨σ6,H6,I6,q6⟩=>?_) fun _ _ z=>z
   refine zA (hif cl H2.objs.size s2 H fp _ s6 σ6 H6 _ I6 q6) (fun b s7 ⟨H7,I7,q7⟩=>?_) fun _ _ z=>z
   have fps:∀ {σ8:St}{H8:Hp}{s8:Shared},Inv (cxC X sc cl N' H2.objs.size s2 H fp) ([(s2.heap.objs.size,{ cls:=.type "list",data:=.seq its.toArray k })]++pinsAt fp s5.heap) σ8 H8 s8 ->
     tn (i + 1) s8.heap/\∀ b∈fp,H8 b=none:=fun {σ8 H8 s8} I8=>by
    refine ⟨T.keep _ _ _ st5 fun b hb o e=>(I8.pin (b,o) (zJ _ (zJ _ (fQ hb e)))).1,fun b hb=>?_⟩
    obtain ⟨o,e,d⟩:=T.obj _ _ st5 b hb;exact (I8.pin (b,o) (zJ _ (zJ _ (fQ hb e)))).2.1
   cases b with
   | false =>
    obtain ⟨m',hm,w7⟩:=hN ys σ6 H7 q7;exact ⟨m',hm,i + 1,ys,its,k,σ6,H7,I7.unpinned,(fps I7).1,(fps I7).2,rv,w7⟩
   | true =>
    have q7':te σ6 H7 fun y H4=>N (ys++[y]) σ6 H4:=q7
    refine zA (he cl H2.objs.size s2 H fp _ s7 σ6 H7 _ I7 q7') (fun uy s8 ⟨y,H8,I8,r8,n8⟩=>?_) fun _ _ z=>z
    obtain ⟨m',hm,w8⟩:=hN _ _ _ n8;obtain ⟨hDo,hDn,hDL,hDf,_⟩:=I8.pin (s2.heap.objs.size,{ cls:=.type "list",data:=.seq its.toArray k }) (zJ _ (Ai _ An));have hys:its.toArray.size<=sizeLine:=by rw [zd,<- rv.length]; exact zF hlen
    refine wpAny_list_append_plain (hsz:=hys) (⟨k,hDo⟩:s8.heap.PlainList s2.heap.objs.size its.toArray) fun h9 ⟨k',hl9⟩ hs9=>?_
    have hDp:∀ p∈(cxC X sc cl N' H2.objs.size s2 H fp).pn++pinsAt fp s5.heap,p.1≠s2.heap.objs.size:=fun p hp=>by
     have hp':p∈pinsAt fp s5.heap:=by
      have hp2:p∈([]:List (Addr × Obj))++pinsAt fp s5.heap:=hp
      simpa using hp2
     obtain ⟨hb,_⟩:=jM hp';obtain ⟨_,ob,e⟩:=fpo p.1 hb;exact (below p.1 (yT e)).2
    have I8':Inv (cxC X sc cl N' H2.objs.size s2 H fp) (pinsAt fp s5.heap) σ6 H8 s8:=I8.pins_of fun p hp=>I8.pin p (zJ _ (zJ _ hp))
    have I9:Inv (cxC X sc cl N' H2.objs.size s2 H fp) (pinsAt fp s5.heap) σ6 H8 { s8 with heap:=h9 }:=I8'.turned (t':=s8.toks) (it:=s2.heap.objs.size) (fun b o hb e=>(hs9.2 b hb).trans e) hDn hDL (.inr (yP _))
     (fun x c e z=>by
      obtain ⟨v,q⟩:=I2.cell x c (h1 x c e);have:=q.lt;rw [z] at this;exact absurd this (zN _)) hDp
    have key:=fps I8;refine ⟨m',hm,i + 1,ys++[y],its++[uy],k',σ6,H8,I9.pins_of fun p hp=>?_,T.keep _ _ _ key.1 fun b hb o e=>?_,key.2,rv.append (.cons r8 .nil),w8⟩
    ·have e:p=(s2.heap.objs.size,{ cls:=.type "list",data:=.seq (its++[uy]).toArray k' }):=by simpa using hp
     subst e;refine ⟨?_,hDn,hDL,hDf,fun v z=>by cases z⟩
     have:(its++[uy]).toArray=its.toArray.push uy:=by simp
     rw [this]; exact hl9
    ·obtain ⟨_,ob,e2⟩:=fpo b hb
     exact (hs9.2 b (below b (yT e2)).2).trans e
 exact codeAny_compStart_list (loop _ rfl) (zA (T.self X.A 0 _ (fun it' s'=>it'=.ref it/\s'={ s2 with heap:=h₁,toks:=s2.toks + ([]:List (Str × Value)).length }) _ st1 ⟨rfl,rfl⟩) (fun it' s' ⟨e1,e2⟩=>by subst e1 e2; exact loop _ rfl) fun _ _ z=>z)
def tComp (n:Nat) (fr:List Nat) (wi:TI) (g:TG) (tt:TT) (te:TE):TE:=fun σ H Q=>wi σ H fun J H1=>Comp J g tt te (fun ys H2=>∀ D,H2 D=none->Q (.ref D) (upd H2 D (.lst ys))) (cst n fr σ) H1
theorem sJ (hc:X.calm=true) (cs:CompOk sc X.env.scope own X.N fr N') (hi:PI X tg iter wi) (hg:∀ cl C s H fp,PG (cxC X sc cl N' C s H fp) tg g) (hif:∀ cl C s H fp,PIf (cxC X sc cl N' C s H fp) ifs tt)
  (he:∀ cl C s H fp,PE (cxC X sc cl N' C s H fp) elt te) (hs:∀ x,foldedSetIterable iter X.env x=pure x:=by intro _; rfl):PE X (.ListComp elt [⟨tg,iter,ifs,0⟩] sc pos) (tComp own.length fr wi g tt te):=by
 intro pins s σ H Q I h;obtain ⟨cl,ecl,h1,h2⟩:=kK (env:=X.env) (sc:=sc) fun y hy hf=>I.ok.has y.1 (cs.fre y hy hf)
 rw [eval_ListComp];refine wpAny_comprehension_free (use:=none) rfl hs ecl cs.kind cs.loc (thn (hi pins s σ H _ I h) fun v s1 q1=>thn q1 fun itv s2 q2=>?_)
 obtain ⟨it,fp,tn,J,H2,rfl,I2,T,st,f2,KK⟩:=q2;refine kL (RR:=fun acc C=>compPost (model X.prog X.w) X.A X.xe none (EP X pins σ Q) acc C) I2 (fun _ _ _ _ _=>hc) T.x st f2 cs h1 h2 hg hif he KK fun D C m H' ys s' hC hn hD hCn hq I'=>?_
 refine ⟨m,hn,fun h' hs'=>⟨.ref D,upd H' D (.lst ys),?_,rfl,hq D hD⟩⟩
 obtain ⟨f0,f1,f2,f3,f4,f5⟩:=I2.fpOk hC hCn;exact I'.turned (t':=s'.toks) (it:=C) (fun b o hb e=>(hs'.2 b hb).trans e) f0 (yV (yV f1)) f3 f4 f5
def tSetC (i n:Nat) (fr:List Nat) (wi:TI) (g:TG) (tt:TT) (te:TE):TS:=fun D σ H=>wi σ H fun J H1=>Comp J g tt te (fun ys H2=>∀ p,H2 p=none->D.nx (σ.set i (some (.ref p))) (upd H2 p (.lst ys))) (cst n fr σ) H1
theorem sL {i:Nat}{y:Str}{py spos:Pos} (hN:X.N.Nodup) (hy:X.N[i]?=some y) (hx:Loc X.env.scope y) (hc:X.calm=true) (cs:CompOk sc X.env.scope own X.N fr N') (hi:PI X tg iter wi)
  (hg:∀ cl C s H fp,PG (cxC X sc cl N' C s H fp) tg g) (hif:∀ cl C s H fp,PIf (cxC X sc cl N' C s H fp) ifs tt) (he:∀ cl C s H fp,PE (cxC X sc cl N' C s H fp) elt te)
  (hsw:swapsWith (.ListComp elt [⟨tg,iter,ifs,0⟩] sc pos) (some (.Name y py)) spos.line X.env=pure true) (hfn:X.fn y=true\/X.env.scope.names.lookup y=some .local:=by first | exact .inl rfl | exact .inr rfl | assumption) (hs:∀ x,foldedSetIterable iter X.env x=pure x:=by intro _; rfl) :
  PS X (.Assign [.Name y py] (.ListComp elt [⟨tg,iter,ifs,0⟩] sc pos) spos) (tSetC i own.length fr wi g tt te):=by
 intro pins s σ H D I h;obtain ⟨cl,ecl,h1,h2⟩:=kK (env:=X.env) (sc:=sc) fun y hy hf=>I.ok.has y.1 (cs.fre y hy hf)
 rw [exec_Assign_Name_used _ _ _ _ hsw];refine yL (wpAny_standAt (yL ?_));show wpAny _ X.A (do let _ <- comprehension (.ListComp elt [⟨tg,iter,ifs,0⟩] sc pos) sc X.env _ (newList []) false (eval iter X.env) (some (assign (.Name y py) X.env))) _ _ s
 refine yL (zA (wpAny_comprehension_free (use:=some (assign (.Name y py) X.env)) (Q:=fun _ s'=>∃ σ' H',Inv X pins σ' H' s'/\D.nx σ' H') rfl hs ecl cs.kind cs.loc (thn (hi pins s σ H _ I h) fun v s1 q1=>thn q1 fun itv s2 q2=>?_))
  (fun _ s' hq=>yQ (yQ hq)) fun _ _ e=>e)
 obtain ⟨it,fp,tn,J,H2,rfl,I2,T,st,f2,KK⟩:=q2;refine kL (RR:=fun acc C=>compPost (model X.prog X.w) X.A X.xe (some (assign (.Name y py) X.env)) (fun _ s'=>∃ σ' H',Inv X pins σ' H' s'/\D.nx σ' H') acc C) I2 (fun _ _ _ _ _=>hc) T.x st f2 cs h1 h2 hg hif he KK fun p C m H' ys s' hC hn hD hCn hq I'=>?_
 obtain ⟨f0,f1,f2,f3,f4,f5⟩:=I2.fpOk hC hCn;show wpAny _ X.A (assign (.Name y py) X.env (.ref p)) _ _ _;refine wpAny_assign_Name (jG (v:=.ref p) I' hN hy hx rfl (fun s'' I'' ⟨a,hsa,ha⟩=>?_) hfn)
 have hCa:C≠a:=by
  rcases ha with z | z
  ·rw [z]; exact f1
  ·exact yV (f4 y a z)
 refine ⟨m,hn.sameBut hsa hCa,fun h' hs'=>⟨_,_,?_,hq p hD⟩⟩
 exact I''.turned (t':=s''.toks) (it:=C) (fun b o hb e=>(hs'.2 b hb).trans e) f0 f1 f3 f4 f5
end
theorem gk {J:It}{g:TG}{tt:TT}{te:TE}{Q:List V->Hp->Prop} (n:Nat) (Pv:Nat->List V->St->Hp->Prop) (h0:Pv 0 [] σ H) (hl:∀ i ys σ H,i<=n->Pv i ys σ H->ys.length < sizeLine)
  (go:∀ i ys σ H,i < n->Pv i ys σ H->J.go i H) (stop:∀ ys σ H,Pv n ys σ H->J.stop n H)
  (turn:∀ i ys σ H,i < n->Pv i ys σ H->∀ x H',J.yld i H x H'->g x σ H' fun σ2 H2=>tt σ2 H2 fun b H3=>if b=true then te σ2 H3 fun y H4=>Pv (i + 1) (ys++[y]) σ2 H4 else Pv (i + 1) ys σ2 H3)
  (after:∀ ys σ H,Pv n ys σ H->Q ys H):Comp J g tt te Q σ H:=by
 refine ⟨fun i m ys σ H=>i<=n/\m=n - i/\Pv i ys σ H,⟨n,zZ _,rfl,h0⟩,fun i m ys σ H ⟨hi,hm,p⟩=>⟨hl i ys σ H hi p,?_⟩⟩
 rcases Nat.lt_or_ge i n with h | h
 ·exact .inr ⟨go i ys σ H h p,Pv (i + 1),fun ys' σ' H' q=>⟨n - (i + 1),by omega,h,rfl,q⟩,turn i ys σ H h p⟩
 ·have e:i=n:=Nat.le_antisymm hi h
  subst e;exact .inl ⟨stop ys σ H p,after ys σ H p⟩
theorem iA {lo:Int}{n:Nat}{g:TG}{tt:TT}{te:TE}{Q:List V->Hp->Prop} (Pv:Nat->List V->St->Hp->Prop) (hn:n < sizeLine) (h0:Pv 0 [] σ H) (hl:∀ i ys σ H,i<=n->Pv i ys σ H->ys.length<=i)
  (turn:∀ i ys σ H,i < n->Pv i ys σ H->g (.int (lo + i)) σ H fun σ2 H2=>tt σ2 H2 fun b H3=>if b=true then te σ2 H3 fun y H4=>Pv (i + 1) (ys++[y]) σ2 H4 else Pv (i + 1) ys σ2 H3)
  (after:∀ ys σ H,Pv n ys σ H->Q ys H):Comp (Itr lo n) g tt te Q σ H :=
 gk n Pv h0 (fun i ys σ H hi p=>AE (zy (hl i ys σ H hi p) hi) hn) (fun i _ _ _ hi _=>hi) (fun _ _ _ _=>yP _) (fun i ys σ H hi p x H' y=>by obtain ⟨rfl,rfl⟩:=y; exact turn i ys σ _ hi p) after
theorem dq (xs:List V) {g:TG}{tt:TT}{te:TE}{Q:List V->Hp->Prop} (Pv:Nat->List V->St->Hp->Prop) (hn:xs.length < sizeLine) (h0:Pv 0 [] σ H) (hl:∀ i ys σ H,i<=xs.length->Pv i ys σ H->ys.length<=i/\SqL K H a xs)
  (turn:∀ i ys σ H x,xs[i]?=some x->Pv i ys σ H->g x σ H fun σ2 H2=>tt σ2 H2 fun b H3=>if b=true then te σ2 H3 fun y H4=>Pv (i + 1) (ys++[y]) σ2 H4 else Pv (i + 1) ys σ2 H3)
  (after:∀ ys σ H,Pv xs.length ys σ H->Q ys H):Comp (Itl K a) g tt te Q σ H :=
 gk xs.length Pv h0 (fun i ys σ H hi p=>AE (zy (hl i ys σ H hi p).1 hi) hn) (fun i ys σ H hi p=>⟨xs,xs[i],(hl i ys σ H (zF hi) p).2,yO hi⟩)
  (fun ys σ H p=>⟨xs,(hl _ ys σ H (yP _) p).2,yP _⟩) (fun i ys σ H hi p x H' y=>by obtain ⟨rfl,y⟩:=y; exact turn i ys σ _ x (y xs (hl i ys σ _ (zF hi) p).2) p) after
theorem gm (xs:List V) {g:TG}{tt:TT}{te:TE}{Q:List V->Hp->Prop} (Pv:Nat->List V->St->Hp->Prop) (hn:xs.length < sizeLine) (h0:Pv 0 [] σ H) (hl:∀ i ys σ H,i<=xs.length->Pv i ys σ H->ys.length<=i/\SqT K H a xs)
  (turn:∀ i ys σ H x,xs[i]?=some x->Pv i ys σ H->g x σ H fun σ2 H2=>tt σ2 H2 fun b H3=>if b=true then te σ2 H3 fun y H4=>Pv (i + 1) (ys++[y]) σ2 H4 else Pv (i + 1) ys σ2 H3)
  (after:∀ ys σ H,Pv xs.length ys σ H->Q ys H):Comp (Itt K a) g tt te Q σ H :=
 gk xs.length Pv h0 (fun i ys σ H hi p=>AE (zy (hl i ys σ H hi p).1 hi) hn) (fun i ys σ H hi p=>⟨xs,xs[i],(hl i ys σ H (zF hi) p).2,yO hi⟩)
  (fun ys σ H p=>⟨xs,(hl _ ys σ H (yP _) p).2,yP _⟩) (fun i ys σ H hi p x H' y=>by obtain ⟨rfl,y⟩:=y; exact turn i ys σ _ x (y xs (hl i ys σ _ (zF hi) p).2) p) after
end L2

namespace L2
open PySem PySem.Spec PyProof.Rows
open AutoSeq1 (wpAny_loadPart') in
set_option maxHeartbeats 4000000 in
theorem sM (k:SK) (l:Addr) (xs:Array Value) :
  Meets (Builtin.«enumerate.__new__» ⟨[.type "enumerate",.ref l],[]⟩) (fun _ R s=>SIs k s.heap l xs /\
   R (.ok (.ret (.ref (s.heap.push (itObj k l)).objs.size))) { s with heap:=(s.heap.push (itObj k l)).push { cls:=.type "enumerate",data:=.fields #[.none,.bool false,.ref s.heap.objs.size,rawInt 0,.none,.none] } }):=by
 cases k with
 | list =>
  exact .of_wp fun prog w A R s h=>by
   obtain ⟨hp,g,d,tk,os⟩:=s; obtain ⟨hL,h⟩:=h;have hsub:=sub_enumerate;have hL:Heap.IsList (Shared.heap ⟨hp,g,d,tk,os⟩) l xs:=hL;obtain ⟨ol,hl,hlc,nl,hld⟩:=id hL
   wp_walk using Au hl
   refine wpAny_stack_any fun st=>yQ ?_
   split
   ·rename_i c _ _ _ _ _
    cases (c == Value.type "enumerate")
    ·wp_walk using Au hl,Aj hL
     exact ⟨_,rfl,h⟩
    ·wp_walk using Au hl,Aj hL
     exact ⟨_,rfl,h⟩
   ·wp_walk using Au hl,Aj hL
    exact ⟨_,rfl,h⟩
 | tuple =>
  exact .of_wp fun prog w A R s h=>by
   obtain ⟨hp,g,d,tk,os⟩:=s; obtain ⟨hL,h⟩:=h;have hsub:=sub_enumerate;have hL:Heap.IsTuple (Shared.heap ⟨hp,g,d,tk,os⟩) l xs:=hL;obtain ⟨ol,hl,hlc,nl,hld⟩:=id hL
   wp_walk using Au hl
   refine wpAny_stack_any fun st=>yQ ?_
   split
   ·rename_i c _ _ _ _ _
    cases (c == Value.type "enumerate")
    ·wp_walk using Au hl,Ao hL
     exact ⟨_,rfl,h⟩
    ·wp_walk using Au hl,Ao hL
     exact ⟨_,rfl,h⟩
   ·wp_walk using Au hl,Ao hL
    exact ⟨_,rfl,h⟩
section
variable {prog:Program}{w:World}{A:Around}{E:Value->Shared->Prop}{s:Shared}
theorem sN {k:SK}{l:Addr}{xs:Array Value}{Q:Value->Shared->Prop} (hL:SIs k s.heap l xs)
  (h:∀ h',IsEnum h' (s.heap.objs.size + 1) s.heap.objs.size 0 .none->SIt k h' s.heap.objs.size l 0->(∀ b o,s.heap.get? b=some o->h'.get? b=some o)->Q (.ref (s.heap.objs.size + 1)) { s with heap:=h' }) :
  wpAny (model prog w) A (call (.type "enumerate") [.ref l]) Q E s:=by
 refine callType_new F.called_enumerate (by decide) (F.typeCall_enumerate_1 _) (F.newCall_enumerate_1 _) (fun obj=>F.args_object_init_2 obj _) F.entry_enumerate_new (sM k l xs) ⟨hL,?_⟩
 have hz:(s.heap.push (itObj k l)).objs.size=s.heap.objs.size + 1:=z8 ..;have r1:(itObj k l).isFreed=false:=by cases k <;> rfl
 have he:=zq (s.heap.push (itObj k l)) (o:={ cls:=.type "enumerate",data:=.fields #[.none,.bool false,.ref s.heap.objs.size,rawInt 0,.none,.none] }) rfl;rw [hz] at he;show _/\_;rw [hz];exact ⟨⟨_,he,rfl⟩,h _ he (ir (yW _ (zq _ r1))) fun b o x=>yW _ (yW _ x)⟩
theorem sO {k:SK}{e it l:Addr}{i:Nat}{items:Array Value}{x old:Value}{Q:Value->Shared->Prop}
  (he:IsEnum s.heap e it i old) (hit:SIt k s.heap it l i) (hl:SIs k s.heap l items) (hx:items[i]?=some x) (hne:e≠it)
  (hQ:∀ h',IsEnumOut h' e it ((i:Int) + 1) x s.heap.objs.size->SIt k h' it l (i + 1) ->
   h'.get? s.heap.objs.size=some { cls:=.type "tuple",data:=.seq #[.int i s.toks,x] }->h'.objs.size=s.heap.objs.size + 1 ->
   (∀ b o,b≠e->b≠it->s.heap.get? b=some o->h'.get? b=some o)->Q (.ref s.heap.objs.size) { s with heap:=h',toks:=s.toks + 1 }) :
  wpAny (model prog w) A (Builtin.«enumerate.__next__» ⟨[.ref e],[]⟩) (fun fin s'=>∃ v,fin=.done (.ret v)/\Q v s') E s:=by
 obtain ⟨hp,g,d,tk,os⟩:=s;show wpAny _ _ (field (.ref e) 2 >>= _) _ _ _;refine yL (zl he rfl (x:=.ref it) rfl ?_);refine yL (dS hit hl hx fun h₁ hit₁ hs₁=>?_)
 replace hs₁:Heap.SameBut it hp h₁:=hs₁
 have he₁:IsEnum h₁ e it i old:=(hs₁.2 e hne).trans he;show wpAny _ _ (field (.ref e) 3 >>= _) _ _ ⟨h₁,g,d,tk,os⟩;refine yL (zl he₁ rfl (x:=rawInt i) rfl ?_);show wpAny _ _ (field (.ref e) 4 >>= _) _ _ ⟨h₁,g,d,tk,os⟩;refine yL (zl he₁ rfl (x:=.none) rfl ?_);show wpAny _ _ (mkInt i >>= _) _ _ ⟨h₁,g,d,tk,os⟩;refine yL (wpAny_mkInt ?_);show wpAny _ _ (setField (.ref e) 3 (rawInt ((i:Int) + 1)) >>= _) _ _ ⟨h₁,g,d,tk + 1,os⟩;refine yL (zV he₁ (by simp) fun h₂ he₂ hs₂=>?_)
 replace hs₂:Heap.SameBut e h₁ h₂:=hs₂
 replace he₂:IsEnum h₂ e it ((i:Int) + 1) old:=he₂
 show wpAny _ _ (setField (.ref e) 4 .none >>= _) _ _ ⟨h₂,g,d,tk + 1,os⟩;refine yL (zV he₂ (by simp) fun h₃ he₃ hs₃=>?_)
 replace hs₃:Heap.SameBut e h₂ h₃:=hs₃
 replace he₃:IsEnum h₃ e it ((i:Int) + 1) old:=he₃
 show wpAny _ _ (newTuple [.int i tk,x] >>= _) _ _ ⟨h₃,g,d,tk + 1,os⟩;refine yL (wpAny_newTuple ?_);have he₄:IsEnum (h₃.push { cls:=.type "tuple",data:=.seq #[.int i tk,x] }) e it ((i:Int) + 1) old:=yW _ he₃;generalize hh₄:h₃.push { cls:=.type "tuple",data:=.seq #[.int i tk,x] }=h₄ at he₄;have hsz:h₃.objs.size=hp.objs.size:=by rw [hs₃.1,hs₂.1,hs₁.1]
 have hel:e < hp.objs.size:=yT he;have ht₄:h₄.get? hp.objs.size=some { cls:=.type "tuple",data:=.seq #[.int i tk,x] }:=by rw [<- hh₄,<- hsz]; exact zq _ rfl
 have hz₄:h₄.objs.size=hp.objs.size + 1:=by rw [<- hh₄,z8,hsz]
 have hk₄:∀ b o,b≠e->b≠it->hp.get? b=some o->h₄.get? b=some o:=fun b o hbe hbi hb=>by
  rw [<- hh₄]; exact yW _ (hs₃.extBut b o hbe (hs₂.extBut b o hbe (hs₁.extBut b o hbi hb)))
 have hit₄:SIt k h₄ it l (i + 1):=by
  rw [<- hh₄]; exact ((hit₁.ext hs₂.extBut (yV hne)).ext hs₃.extBut (yV hne)).at fun o ho=>yW _ ho
 show wpAny _ _ (Builtin.SmallTypes.ownedTupleIsFree (.ref e) >>= _) _ _ ⟨h₄,g,d,tk + 1,os⟩;rw [hsz];clear hh₄ he₃ hs₃ he₂ hs₂ he₁ hs₁ hit₁ hsz h₃ h₂ h₁;refine yL ?_
 ·unfold Builtin.SmallTypes.ownedTupleIsFree
  refine yL (zl he₄ rfl (x:=.none) rfl (yQ ?_));simp only [if_true];refine yL (wpAny_rule ?_);refine yL (zl he₄ rfl (x:=old) rfl ?_);refine yL (zV he₄ (by simp) fun h₅ he₅ hs₅=>?_)
  replace hs₅:Heap.SameBut e h₄ h₅:=hs₅
  replace he₅:IsEnum h₅ e it ((i:Int) + 1) x:=he₅
  show wpAny _ _ (Builtin.SmallTypes.ownedTupleHandOut (.ref e) (.ref hp.objs.size) >>= _) _ _ ⟨h₅,g,d,tk + 1,os⟩;refine yL ?_
  ·unfold Builtin.SmallTypes.ownedTupleHandOut
   refine yL (zV he₅ (by simp) fun h₆ he₆ hs₆=>?_)
   replace hs₆:Heap.SameBut e h₅ h₆:=hs₆
   replace he₆:IsEnumOut h₆ e it ((i:Int) + 1) x hp.objs.size:=he₆
   refine zV he₆ (by simp) fun h₇ he₇ hs₇=>?_
   replace hs₇:Heap.SameBut e h₆ h₇:=hs₇
   replace he₇:IsEnumOut h₇ e it ((i:Int) + 1) x hp.objs.size:=he₇
   refine yL (wpAny_letGo (yQ ⟨_,rfl,hQ h₇ he₇ ?_ ?_ ?_ ?_⟩))
   ·exact ((hit₄.ext hs₅.extBut (yV hne)).ext hs₆.extBut (yV hne)).ext hs₇.extBut (yV hne)
   ·exact hs₇.extBut _ _ (zB hel) (hs₆.extBut _ _ (zB hel) (hs₅.extBut _ _ (zB hel) ht₄))
   ·rw [hs₇.1,hs₆.1,hs₅.1,hz₄]
   ·exact fun b o hbe hbi hb=>hs₇.extBut b o hbe (hs₆.extBut b o hbe (hs₅.extBut b o hbe (hk₄ b o hbe hbi hb)))
theorem sP {k:SK}{e it l:Addr}{i:Nat}{items:Array Value}{x old:Value}{Q:Option Value->Shared->Prop}
  (he:IsEnum s.heap e it i old) (hit:SIt k s.heap it l i) (hl:SIs k s.heap l items) (hx:items[i]?=some x) (hne:e≠it)
  (hQ:∀ h',IsEnumOut h' e it ((i:Int) + 1) x s.heap.objs.size->SIt k h' it l (i + 1) ->
   h'.get? s.heap.objs.size=some { cls:=.type "tuple",data:=.seq #[.int i s.toks,x] }->h'.objs.size=s.heap.objs.size + 1 ->
   (∀ b o,b≠e->b≠it->s.heap.get? b=some o->h'.get? b=some o)->Q (some (.ref s.heap.objs.size)) { s with heap:=h',toks:=s.toks + 1 }) :
  wpAny (model prog w) A (pyNext (.ref e)) Q E s:=by
 have hT:s.TypeIs (.ref e) "enumerate" := ⟨_,he,rfl⟩;unfold pyNext;exact yL (AH (Ak (name:=Str.ofString "__next__") hT F.slot_enumerate_next
  (Al F.slot_enumerate_next hT F.entry_enumerate_next
   (sO he hit hl hx hne fun h' a b c d k=>yQ (hQ h' a b c d k)) (F.args_enumerate_next_1 _))))
theorem sQ {k:SK}{e it l:Addr}{i:Nat}{items:Array Value}{old:Value}{Q:Option Value->Shared->Prop} (hh:A.handled=none)
  (he:IsEnum s.heap e it i old) (hit:SIt k s.heap it l i) (hl:SIs k s.heap l items) (hx:items[i]?=none)
  (hQ:∀ h',Heap.ExtBut it s.heap h'->Q none { s with heap:=h' }):wpAny (model prog w) A (pyNext (.ref e)) Q E s:=by
 have hT:s.TypeIs (.ref e) "enumerate" := ⟨_,he,rfl⟩;unfold pyNext;refine yL (AH (Ak (name:=Str.ofString "__next__") hT F.slot_enumerate_next
  (Al F.slot_enumerate_next hT F.entry_enumerate_next ?_ (F.args_enumerate_next_1 _))))
 show wpAny _ _ (field (.ref e) 2 >>= _) _ _ _;refine yL (zl he rfl (x:=.ref it) rfl ?_);refine yL (eW hh hit hl hx fun h' x he' hx'=>?_)
 obtain ⟨o,ho,hc⟩:=hx';refine yL (wpAny_isInstance (T := "StopIteration") (b:=true) ⟨o,ho,hc⟩ isSubtype_stop ?_);exact yQ (hQ _ he')
end
def Itn (K:PySem.W.Frag) (k:SK) (a:Addr):It :=
 ⟨fun i H=>∃ xs x,Sq k K H a xs/\xs[i]?=some x,
  fun i H v H'=>∃ T,H T=none/\v=.ref T/\∀ xs,Sq k K H a xs->∃ x,xs[i]?=some x/\H'=upd H T (.tup [.int i,x]),
  fun i H=>∃ xs,Sq k K H a xs/\xs.length<=i⟩
theorem sR {P:Program}{w:World}{K:PySem.W.Frag}{elts:List Expr}{kk:Nat}{tpos:Pos}{k:SK}{e it a:Addr} (hne:e≠it) :
  Turn P w K (.Tuple elts kk tpos) (Itn K k a) [e,it] e (fun i h=>(∃ old,IsEnum h e it i old)/\SIt k h it a i) where
 mem:=by simp
 obj:=fun i h st b hb=>by
  obtain ⟨⟨old,he⟩,h1⟩:=st;simp only [yZ,ze,zh] at hb;rcases hb with rfl | rfl
  ·exact ⟨_,he,fun v q=>nomatch q⟩
  ·exact h1.obj
 keep:=fun i h h' st k=>by
  obtain ⟨⟨old,he⟩,h1⟩:=st;exact ⟨⟨old,k _ (by simp) _ he⟩,h1.at fun o e=>k _ (by simp) o e⟩
 item:=by
  intro X hP hw hK hc i pins s σ H E I hf st hg;subst hP hw hK;obtain ⟨⟨old,he⟩,h1⟩:=st;obtain ⟨xs,x,q1,hx⟩:=hg;obtain ⟨ix,rx,px⟩:=I.sis q1;obtain ⟨u,hu,ru⟩:=rx.get hx;refine sP he h1 px (x:=u) (by simpa using hu) hne fun h' a1 a2 a3 a4 a5=>?_
  refine ⟨_,rfl,wpAny_letOwnedTupleGo_enum (s:={ s with heap:=h',toks:=s.toks + 1 }) a1 fun h'' b1 b2=>?_⟩
  have elt:e < s.heap.objs.size:=yT he;have ilt:it < s.heap.objs.size:=by obtain ⟨o,ho,_⟩:=h1.obj; exact yT ho
  have k2:∀ c o,c ∉ [e,it]->s.heap.get? c=some o->h''.get? c=some o:=fun c o hc ec=>by
   simp only [yZ,ze,zh,not_or] at hc;exact b2.extBut _ _ hc.1 (a5 c o hc.1 hc.2 ec)
  have hT2:h''.get? s.heap.objs.size=some { cls:=.type "tuple",data:=.seq #[.int i s.toks,u] }:=b2.extBut _ _ (zB elt) a3;refine ⟨.ref s.heap.objs.size,upd H s.heap.objs.size (.tup [.int i,x]),I.turnedNew (t':=s.toks + 1) (o:=.tup [.int i,x]) k2 hf (yP _)
   ⟨by show 2<=sizeLine; decide,[.int i s.toks,u],.cons ⟨_,rfl⟩ (.cons ru .nil),⟨_,hT2,rfl,_,rfl⟩⟩,rfl,
   ⟨_,I.hok.fresh (yP _),rfl,fun xs' e1=>?_⟩,⟨⟨u,by simpa using b1⟩,a2.at fun o eo=>b2.extBut _ _ (yV hne) eo⟩,fun b hb=>?_⟩
  ·rw [I.sq_inj e1 q1]
   exact ⟨x,hx,rfl⟩
  ·have blt:b < s.heap.objs.size:=by
    simp only [yZ,ze,zh] at hb;rcases hb with rfl | rfl
    ·exact elt
    ·exact ilt
   rw [aR (y9 blt)];exact (hf b hb).1
 done:=by
  intro X hP hw hK hc i pins s σ H E I hf st hg;subst hP hw hK;obtain ⟨⟨old,he⟩,h1⟩:=st;obtain ⟨xs,q1,hl⟩:=hg;obtain ⟨ix,rx,px⟩:=I.sis q1;have l1:=rx.length;refine sQ (I.ok.hd hc) he h1 px (by simp; omega) fun h' hk=>⟨rfl,I.turnedL (t':=s.toks) (its:=[e,it]) (fun b o hb eb=>?_) hf⟩
  simp only [yZ,ze,zh,not_or] at hb;exact hk b o hb.2 eb
 self:=fun _ _ _ _ _ st h=>by
  obtain ⟨⟨old,he⟩,_⟩:=st;exact wpAny_pyIter_enum he h
section
variable {X:Cx}{elts:List Expr}{kk:Nat}{tpos:Pos}
def iEnum (K:PySem.W.Frag) (k:SK) (ta:TA):TI:=fun σ H R=>ta σ H fun vs H1=>∃ a,vs=[.ref a]/\(∃ xs,Sq k K H1 a xs)/\R (Itn K k a) H1
theorem sS (k:SK) {a:Expr}{ta:TA}{p pos:Pos} (hg:Gl X "enumerate") (hm:X.mg "enumerate" = none) (ha:PA X [a] ta) (hs:starEach [a] X.env=[(false,eval a X.env)]:=by rfl) :
  PI X (.Tuple elts kk tpos) (.Call (.Name "enumerate" p) [a] [] pos) (iEnum X.K k ta):=by
 intro pins s σ H R I h;refine Call_ (dh I hg hm PyProof.Rows.Boot.«enumerate» (Ay (thn (ha pos pins s σ H _ I h) fun us s1 ⟨vs,H1,I1,r1,q1⟩=>?_) hs rfl))
 obtain ⟨a',e,⟨xs,qx⟩,q⟩:=q1;subst e;cases r1 with
 | cons r rr =>
  cases rr;cases r;obtain ⟨ix,rx,px⟩:=I1.sis qx;refine sN px fun h' b1 b2 b3=>wpAny_pyIter_enum (s:={ s1 with heap:=h' }) b1 ?_
  have nn:∀ b,s1.heap.objs.size<=b->FpOk X pins H1 b:=fun b hb=>I1.fpOk hb (I1.hok.fresh hb)
  refine ⟨_,[s1.heap.objs.size + 1,s1.heap.objs.size],_,_,H1,rfl,I1.kept (t':=s1.toks) b3,sR (k:=k) (zB (A1 _)),⟨⟨_,b1⟩,b2⟩,fun b hb=>?_,q⟩
  simp only [yZ,ze,zh] at hb;rcases hb with rfl | rfl
  ·exact nn _ (Nat.le_succ _)
  ·exact nn _ (yP _)
end
theorem eZ {K:PySem.W.Frag}{k:SK}{a:Addr}{xs:List V}{g:TG}{tb:TS}{D:Ends}{σ:St}{H:Hp} (Pv:Nat->St->Hp->Prop) (h0:Pv 0 σ H)
  (hl:∀ i σ H,i<=xs.length->Pv i σ H->Sq k K H a xs)
  (hs:∀ i x σ H T,xs[i]?=some x->Pv i σ H->H T=none->g (.ref T) σ (upd H T (.tup [.int i,x])) fun σ2 H2=>tb { D with nx:=Pv (i + 1),ct:=Pv (i + 1),bk:=D.nx } σ2 H2)
  (hd:∀ σ H,Pv xs.length σ H->D.nx σ H):Loop (Itn K k a) g tb D σ H:=by
 refine ⟨fun i m σ H=>m=xs.length - i/\i<=xs.length/\Pv i σ H,⟨xs.length,by simp,zZ _,h0⟩,?_⟩
 rintro i m σ H ⟨rfl,hi,p⟩;have q1:=hl i σ H hi p
 by_cases hlt:i < xs.length
 ·refine .inr ⟨⟨xs,xs[i],q1,by simp [hlt]⟩,Pv (i + 1),fun σ' H' p'=>⟨xs.length - (i + 1),by omega,rfl,hlt,p'⟩,fun x H' y=>?_⟩
  obtain ⟨T,hT,rfl,y⟩:=y;obtain ⟨u,e1,rfl⟩:=y xs q1;exact hs i u σ H T e1 p hT
 ·have e:i=xs.length:=by omega
  refine .inl ⟨⟨xs,q1,by omega⟩,?_⟩
  subst e;exact hd σ H p
theorem kM {K:PySem.W.Frag}{k:SK}{a:Addr} (xs:List V) {g:TG}{tt:TT}{te:TE}{Q:List V->Hp->Prop}{σ:St}{H:Hp} (Pv:Nat->List V->St->Hp->Prop) (hn:xs.length < sizeLine) (h0:Pv 0 [] σ H) (hl:∀ i ys σ H,i<=xs.length->Pv i ys σ H->ys.length<=i/\Sq k K H a xs)
  (turn:∀ i ys σ H x T,xs[i]?=some x->Pv i ys σ H->H T=none->g (.ref T) σ (upd H T (.tup [.int i,x])) fun σ2 H2=>tt σ2 H2 fun b H3=>if b=true then te σ2 H3 fun y H4=>Pv (i + 1) (ys++[y]) σ2 H4 else Pv (i + 1) ys σ2 H3)
  (after:∀ ys σ H,Pv xs.length ys σ H->Q ys H):Comp (Itn K k a) g tt te Q σ H :=
 gk xs.length Pv h0 (fun i ys σ H hi p=>AE (zy (hl i ys σ H hi p).1 hi) hn) (fun i ys σ H hi p=>⟨xs,xs[i],(hl i ys σ H (zF hi) p).2,yO hi⟩)
  (fun ys σ H p=>⟨xs,(hl _ ys σ H (yP _) p).2,yP _⟩) (fun i ys σ H hi p x H' y=>by
   obtain ⟨T,hT,rfl,y⟩:=y;obtain ⟨u,e1,rfl⟩:=y xs (hl i ys σ _ (zF hi) p).2;exact turn i ys σ _ u T e1 p hT) after
end L2

namespace L2
open PySem PySem.Spec PyProof.Rows
theorem sT:typeLookup (.type "list") "__getattr__" = pure none:=by rw [typeLookup_type,builtinLookup_eq_fast]; kernel_rfl
theorem sU:typeLookup (.type "list") "keys" = pure none:=by rw [typeLookup_type,builtinLookup_eq_fast]; kernel_rfl
set_option maxHeartbeats 4000000 in
theorem sV (a:Addr) (its:Array Value) (n:Nat) (name:Str) (u:Tok) (hmiss:typeLookup (.type "list") name=pure none) (hns:[Str.ofString "__module__",Str.ofString "__name__",Str.ofString "__qualname__",Str.ofString "__doc__",Str.ofString "__annotations__"].contains name=false) (hsz:name.length + 100<=sizeLine:=by size_fits) :
  Meets (Builtin.«object.__getattribute__» ⟨[.ref a,.str name u],[]⟩) (fun A R s=>s.heap.get? a=some { cls:=.type "list",data:=.seq its n }/\raisesAttr (.ref a) name A R s) :=
 Meets.of_wp fun prog w A R s hs=>by
  obtain ⟨hp,g,d,tk,os⟩:=s;obtain ⟨ha,hs⟩:=hs;have hT:(⟨hp,g,d,tk,os⟩:Shared).TypeIs (.ref a) "list" := ⟨_,ha,rfl⟩;unfold Builtin.«object.__getattribute__»
  repeat (any_goals (first | assumption | wp_step))
  rw [yM (by rw [hns]; exact zj)]
  repeat (any_goals (first | assumption | wp_step))
  exact wpAny_raiseAttrError hs.1 hs.2 (attrMsg_fits (by decide +kernel) hsz)
section
variable {prog:Program}{w:World}{A:Around}{E:Value->Shared->Prop}{s:Shared}
set_option maxHeartbeats 4000000 in
theorem sW {a:Addr}{its:Array Value}{n:Nat}{name:Str}{Q:Option Value->Shared->Prop} (hmiss:typeLookup (.type "list") name=pure none) (hns:[Str.ofString "__module__",Str.ofString "__name__",Str.ofString "__qualname__",Str.ofString "__doc__",Str.ofString "__annotations__"].contains name=false) (hA:A.handled=none) (ha:s.heap.get? a=some { cls:=.type "list",data:=.seq its n })
  (h:∀ h' tk,(∀ b o,s.heap.get? b=some o->h'.get? b=some o)->Q none { s with heap:=h',toks:=tk }) (hsz:name.length + 100<=sizeLine:=by size_fits) :
  wpAny (model prog w) A (getAttr? (.ref a) name) Q E s:=by
 obtain ⟨hp,g,d,tk,os⟩:=s;have hT:∀ t',(⟨hp,g,d,t',os⟩:Shared).TypeIs (.ref a) "list" := fun _=>⟨_,ha,rfl⟩
 have f1:=sub_AttributeError;have f3:=F.slot_list_getattribute.lookup;have f4:=F.slot_list_getattribute.bind (.ref a);have f5:=sT;unfold getAttr? getAttrBy? getAttrBy
 repeat (any_goals (first | assumption | exact hT _ | ((with_reducible show wpAny _ _ (call (Value.builtin "list.__getattribute__") _ _) _ _ _); refine call_meets F.slot_list_getattribute (hT _) F.entry_list_ga (F.args_list_getattribute_2 _ _) (sV a its n name _ hmiss hns hsz) ⟨ha,hA,fun h' tk' e hx=>?_⟩) | wp_step))
 obtain ⟨t',u',he⟩:=hx.there;show wpAny _ _ (getattributeRaised _ _ _ _ _ _ _) _ _ _;unfold getattributeRaised
 repeat (any_goals (first | assumption | wp_step))
 exact h _ _ fun b o hb=>hx.keeps b o hb
end
theorem kN:entryFor table "dict.update.loop" = some Builtin.«dict.update.loop»:=entryFor_of_tree (by kernel_rfl)
theorem gn:plainId "dict.update.loop" = true:=by decide +kernel
section
variable {prog:Program}{w:World}{K:Type} [DecidableEq K] {knd:KeyKind prog w K}{A:Around}{R:Result->Shared->Prop}
theorem sX {d I l:Addr}{items:Array Value}{ps:List (K × Value)} (hh:A.handled=none) (hdI:d≠I) (hld:l≠d) (hlI:l≠I) (hn:items.size=ps.length) (hsz:ps.length<=sizeLine) :
  ∀ (k i:Nat) (s:Shared) (acc:List (K × Value)),ps.length - i=k->i<=ps.length->acc.length<=i->s.heap.IsListIter I l i->s.heap.IsList l items->s.heap.DictOf knd d acc ->
  (∀ (j:Nat) (kv:K × Value),ps[j]?=some kv->∃ (t:Addr) (key:Value),items[j]?=some (Value.ref t)/\s.heap.IsTuple t #[key,kv.2]/\knd.is kv.1 key=true/\t≠d/\t≠I) ->
  (∀ h' tk,h'.DictOf knd d (merged acc (ps.drop i))->(∀ b o,b≠d->b≠I->s.heap.get? b=some o->h'.get? b=some o)->R (.ok (.ret .none)) { s with heap:=h',toks:=tk }) ->
  codeAny (model prog w) A (.builtin "dict.update.loop" ⟨[.ref d,.ref I,rawInt i,.none],[]⟩) R s:=by
 intro k
 induction k with
 | zero =>
  intro i s acc hk hi hacc hit hl hd hp hR;refine codeAny_builtin kN ?_;rw [Around.under_plainId gn _];show wpAny _ A.in1 (pyNext (.ref I) >>= _) _ _ s;refine yL (wpAny_pyNext_list_end (A:=A.in1) hh hit hl (by simp; omega) fun h₁ he₁=>?_)
  show wpAny _ _ (Builtin.Dict.addKeywords d [] >>= _) _ _ _;refine yL (yQ (yQ ?_));have:=hR h₁ s.toks (by rw [List.drop_of_length_le (by omega)]; exact hd.extBut he₁ hdI) (fun b o hb hbI e=>he₁ b o hbI e)
  exact this
 | succ k ih =>
  intro i s acc hk hi hacc hit hl hd hp hR;have hlt:i < ps.length:=by omega
  obtain ⟨t,key,hx,ht,hkey,htd,htI⟩:=hp i ps[i] (yO hlt);refine codeAny_builtin kN ?_;rw [Around.under_plainId gn _];show wpAny _ A.in1 (pyNext (.ref I) >>= _) _ _ s;refine yL (wpAny_pyNext_list_item hit hl hx fun h₁ hit₁ hs₁=>?_)
  have ht₁:h₁.IsTuple t #[key,ps[i].2]:=let ⟨o,ho,r⟩:=ht; ⟨o,(hs₁.2 t htI).trans ho,r⟩;have hd₁:h₁.DictOf knd d acc:=hd.sameBut hs₁ hdI;refine yL (zY ?_);obtain ⟨ot,hot,hotc,nt,hotd⟩:=id ht₁;refine yL (wpAny_tryCatch ?_);unfold Builtin.Dict.pairItems;refine yL (wpAny_typeOf (T := "tuple") (⟨ot,hot,hotc⟩:Shared.TypeIs _ (.ref t) "tuple") ?_);rw [yN (by decide)]
  refine yL (zU hot hotd (yQ ?_));show wpAny _ _ (holding [key,ps[i].2] (dictSet d key ps[i].2)) _ _ _;refine zY (wpAny_dictSet_pairs (hsz:=by omega) hkey hd₁ fun h₂ hd₂ hs₂=>yQ ?_)
  refine ⟨plainId_quiet gn _,?_⟩;have up:∀ b o,b≠d->b≠I->s.heap.get? b=some o->h₂.get? b=some o:=fun b o hb hbI e=>(hs₂.2 b hb).trans ((hs₁.2 b hbI).trans e)
  have e1:(i:Int) + 1=((i + 1:Nat):Int):=by omega
  have:=ih (i + 1) { s with heap:=h₂,toks:=s.toks + 1 } (stored acc ps[i].1 ps[i].2) (by omega) hlt (zy (stored_length_le ..) (by omega)) (hit₁.extBut hs₂.extBut (yV hdI))
   (let ⟨o,ho,r⟩:=hl; ⟨o,up l o hld hlI ho,r⟩) hd₂ (fun j kv hj=>by
    obtain ⟨t',key',a1,⟨o,ho,r⟩,a3,a4,a5⟩:=hp j kv hj;exact ⟨t',key',a1,⟨o,up t' o a4 a5 ho,r⟩,a3,a4,a5⟩) (fun h' tk hm hk'=>by
    have:=hR h' tk (by
     rw [List.drop_eq_getElem_cons hlt];exact hm) fun b o hb hbI e=>hk' b o hb hbI (up b o hb hbI e)
    exact this)
  rw [<- e1] at this;exact this
end
section
variable {prog:Program}{w:World}{K:Type} [DecidableEq K] {knd:KeyKind prog w K}{A:Around}{E:Value->Shared->Prop}{s:Shared}
theorem sY {l:Addr}{items:List Value}{n:Nat}{ps:List (K × Value)}{Q:Value->Shared->Prop} (hh:A.handled=none) (hl:s.heap.get? l=some { cls:=.type "list",data:=.seq items.toArray n })
  (hn:items.length=ps.length) (hsz:ps.length<=sizeLine) (hp:∀ (j:Nat) (kv:K × Value),ps[j]?=some kv->∃ (t:Addr) (key:Value),items[j]?=some (Value.ref t)/\s.heap.IsTuple t #[key,kv.2]/\knd.is kv.1 key=true)
  (h:∀ h' tk,h'.DictOf knd s.heap.objs.size (merged [] ps)->(∀ b o,s.heap.get? b=some o->h'.get? b=some o)->Q (.ref s.heap.objs.size) { s with heap:=h',toks:=tk }) :
  wpAny (model prog w) A (call (.type "dict") [.ref l]) Q E s:=by
 refine callType_codes (Q₁:=fun obj s₁=>obj=.ref s.heap.objs.size/\s₁={ s with heap:=s.heap.push { cls:=.type "dict",data:=.dict #[] } }) F.kt_called_dict (F.kt_typeCall_dict_1 _) F.entry_dict_init (kt_code_dict_new _ ⟨rfl,rfl⟩) ?_
 rintro obj s₁ ⟨rfl,rfl⟩;have hnew:(s.heap.push { cls:=.type "dict",data:=.dict #[] }).DictOf knd s.heap.objs.size []:=Heap.DictOf.new s.heap;have hl':(s.heap.push { cls:=.type "dict",data:=.dict #[] }).get? l=some { cls:=.type "list",data:=.seq items.toArray n }:=yW _ hl;refine ⟨hnew.typeIs,F.args_dict_init_2 _ _,?_⟩;unfold Builtin.«dict.__init__»;refine yL ?_;unfold Builtin.Dict.selfAndRest;refine yL (wpAny_notOrdered_dict hnew.typeIs ?_);show wpAny _ _ (pure (s.heap.objs.size,[Value.ref l])) _ _ _;refine yQ ?_;show wpAny _ _ (Builtin.Dict.updateFrom "dict.__init__" s.heap.objs.size (.ref l) [] .none) _ _ _;unfold Builtin.Dict.updateFrom;refine yL (wpAny_typeOf (T := "list") (⟨_,hl',rfl⟩:Shared.TypeIs _ (.ref l) "list") ?_);rw [yN (by decide)]
 refine yL (sW (name := "keys") sU (by decide +kernel) ?_ hl' fun h₁ tk₁ k₁=>?_)
 ·first | exact hh | (show A.in1.handled=none; exact hh)
 rw [yN (show (none:Option Value).isNone=true from rfl)];refine yL (wpAny_rule ?_);have hl₁:h₁.IsList l items.toArray:=⟨_,k₁ _ _ hl',rfl,n,rfl⟩;refine yL (Aj (s:={ s with heap:=h₁,toks:=tk₁ }) hl₁ ?_)
 have szd:s.heap.objs.size < h₁.objs.size:=by
  obtain ⟨o,_,_,ho,_⟩:=hnew;exact yT (k₁ _ _ ho)
 have lsz:l < s.heap.objs.size:=yT hl;have old:∀ b o,s.heap.get? b=some o->(h₁.push { cls:=.type "list_iterator",data:=.fields #[.ref l,.int 0 0] }).get? b=some o:=fun b o e=>yW _ (k₁ b o (yW _ e))
 refine yQ ⟨plainId_quiet gn _,?_⟩;refine sX (knd:=knd) (d:=s.heap.objs.size) (I:=h₁.objs.size) (l:=l) (items:=items.toArray) (ps:=ps) (A:=A.in1) hh (y9 szd) (y9 lsz) (y9 (Ar lsz szd)) (by simpa using hn) hsz ps.length 0 _ [] rfl (zZ _) (yP _)
  ⟨_,zq _ rfl,rfl,rfl⟩ ⟨_,yW _ (k₁ _ _ hl'),rfl,n,rfl⟩ (let ⟨o,es,ep,ho,r⟩:=hnew; ⟨o,es,ep,yW _ (k₁ _ _ ho),r⟩) (fun j kv hj=>?_) (fun h' tk hm hk=>?_)
 ·obtain ⟨t,key,a1,⟨o,ho,r⟩,a3⟩:=hp j kv hj
  have tlt:=yT ho;exact ⟨t,key,by simpa using a1,⟨o,old t o ho,r⟩,a3,y9 tlt,y9 (Ar tlt szd)⟩
 ·exact ⟨rfl,h h' tk hm fun b o e=>hk b o (y9 (yT e)) (y9 (Ar (yT e) szd)) (old b o e)⟩
end
end L2

namespace L2
open PySem PySem.Spec PyProof.Rows
abbrev IsZipK (h:Heap) (z TI TO:Addr) (T:Addr) (f1:Bool):Prop :=
 h.get? z=some { cls:=.type "zip",dict:=none,data:=.fields #[rawInt T,.bool f1,.bool false,.ref TI,.ref TO],slots:=#[] }
section
variable {prog:Program}{w:World}{A:Around}{E:Value->Shared->Prop}{s:Shared}
theorem sZ {M:Model}{a:Addr}{Q:Option Obj->Shared->Prop} (h:Q (s.heap.get? a) s):wpAny M A (loadIfAlive a) Q E s:=by
 intro Γ p hΓ;unfold loadIfAlive;rw [Sem.wp_loadIfAlive];exact yQ (M:=M) (A:=A) (E:=E) h Γ p hΓ
theorem kO {z TI TO T:Addr}{f1:Bool}{o:Obj}{Q:Bool->Shared->Prop} (hz:IsZipK s.heap z TI TO T f1) (hT:s.heap.get? T=some o)
  (h:∀ h',IsZipK h' z TI TO T true->Heap.SameBut z s.heap h'->Q false { s with heap:=h' }):wpAny (model prog w) A (Builtin.SmallTypes.ownedTupleIsFree (.ref z)) Q E s:=by
 unfold Builtin.SmallTypes.ownedTupleIsFree;refine yL (zl hz rfl (x:=rawInt T) rfl ?_);show wpAny _ _ (loadIfAlive (T:Int).toNat >>= _) _ _ _;refine yL (sZ ?_);rw [show (T:Int).toNat=T from A3 T,hT];rw [yM (by simp)]
 refine yL (zl hz rfl (x:=.bool f1) rfl ?_);cases f1 with
 | true =>
  rw [yM (by decide)]
  exact yQ (h s.heap hz (Heap.SameBut.refl ..))
 | false =>
  rw [yN (by decide)]
  refine yL (zV hz (by simp) fun h₁ hz₁ hs₁=>yQ (h h₁ hz₁ hs₁))
theorem s9 {k1 k2:SK}{z TI TO T i1 i2 l1 l2:Addr}{f1:Bool}{o:Obj}{n1 n2:Nat}{xs ys:Array Value}{x y:Value}{Q:Value->Shared->Prop} (D:ZipApart z TI TO i1 i2 l1 l2)
  (hz:IsZipK s.heap z TI TO T f1) (hT:s.heap.get? T=some o) (hTI:IsPair s.heap TI (.ref i1) (.ref i2))
  (h1:SIt k1 s.heap i1 l1 n1) (h2:SIt k2 s.heap i2 l2 n2) (hl1:SIs k1 s.heap l1 xs) (hl2:SIs k2 s.heap l2 ys) (hx:xs[n1]?=some x) (hy:ys[n2]?=some y)
  (hQ:∀ h',IsZipK h' z TI TO T true->SIt k1 h' i1 l1 (n1 + 1)->SIt k2 h' i2 l2 (n2 + 1)->IsPair h' s.heap.objs.size x y ->
   (∀ c o,c≠z->c≠i1->c≠i2->s.heap.get? c=some o->h'.get? c=some o)->Q (.ref s.heap.objs.size) { s with heap:=h' }) :
  wpAny (model prog w) A (Builtin.«zip.__next__» ⟨[.ref z],[]⟩) (fun fin s'=>∃ v,fin=.done (.ret v)/\Q v s') E s:=by
 show wpAny _ _ (field (.ref z) 2 >>= _) _ _ _;refine yL (zl hz rfl (x:=.bool false) rfl ?_);show wpAny _ _ (field (.ref z) 3 >>= _) _ _ _;refine yL (zl hz rfl (x:=.ref TI) rfl ?_);refine yL (zU hTI rfl ?_);show wpAny _ _ (Builtin.SmallTypes.ownedTupleIsFree (.ref z) >>= _) _ _ _;refine yL (kO hz hT fun h₁ hz₁ hs₁=>?_)
 rw [yM zj];refine yL ?_;rw [<- Array.forIn_toList];simp only [AS,List.forIn_nil];refine yL (yL (zY ?_));show wpAny _ _ (Builtin.SmallTypes.nextOf (.ref i1) >>= _) _ _ _;refine yL (dS (h1.ext hs₁.extBut D.i1z) (hl1.ext hs₁.extBut D.l1z) hx fun h₂ h1₂ hs₂=>yQ (yQ ?_))
 refine yL (yL (zY ?_));show wpAny _ _ (Builtin.SmallTypes.nextOf (.ref i2) >>= _) _ _ _;refine yL (dS ((h2.ext hs₁.extBut D.i2z).ext hs₂.extBut D.i12.symm) ((hl2.ext hs₁.extBut D.l2z).ext hs₂.extBut D.l2i1) hy fun h₄ h2₄ hs₄=>yQ (yQ (yQ ?_)))
 have hsz:h₄.objs.size=s.heap.objs.size:=by rw [hs₄.1,hs₂.1,hs₁.1]
 have up:∀ c o,c≠z->c≠i1->c≠i2->s.heap.get? c=some o->h₄.get? c=some o:=fun c o c1 c3 c4 e=>hs₄.extBut _ _ c4 (hs₂.extBut _ _ c3 (hs₁.extBut _ _ c1 e))
 show wpAny _ _ (newTuple [x,y] >>= _) _ _ _;refine yL (wpAny_newTuple ?_);refine yQ ⟨_,rfl,?_⟩;show Q (.ref h₄.objs.size) _;rw [hsz];refine hQ _ (yW _ (hs₄.extBut _ _ D.i2z.symm (hs₂.extBut _ _ D.i1z.symm hz₁))) ((h1₂.ext hs₄.extBut D.i12).at fun o e=>yW _ e) (h2₄.at fun o e=>yW _ e) ?_ fun c o c1 c3 c4 e=>yW _ (up c o c1 c3 c4 e)
 rw [<- hsz];exact zq _ rfl
theorem tj {k1 k2:SK}{z TI TO T i1 i2 l1 l2:Addr}{f1:Bool}{o:Obj}{n1 n2:Nat}{xs ys:Array Value}{Q:Fin->Shared->Prop} (hh:A.handled=none) (D:ZipApart z TI TO i1 i2 l1 l2)
  (hz:IsZipK s.heap z TI TO T f1) (hT:s.heap.get? T=some o) (hTI:IsPair s.heap TI (.ref i1) (.ref i2))
  (h1:SIt k1 s.heap i1 l1 n1) (h2:SIt k2 s.heap i2 l2 n2) (hl1:SIs k1 s.heap l1 xs) (hl2:SIs k2 s.heap l2 ys) (hend:xs[n1]?=none\/ys[n2]?=none)
  (hE:∀ h' e,(∀ c o,c≠z->c≠i1->c≠i2->s.heap.get? c=some o->h'.get? c=some o)->(∃ o,h'.get? e=some o/\o.cls=.type "StopIteration")->E (.ref e) { s with heap:=h' }) :
  wpAny (model prog w) A (Builtin.«zip.__next__» ⟨[.ref z],[]⟩) Q E s:=by
 show wpAny _ _ (field (.ref z) 2 >>= _) _ _ _;refine yL (zl hz rfl (x:=.bool false) rfl ?_);show wpAny _ _ (field (.ref z) 3 >>= _) _ _ _;refine yL (zl hz rfl (x:=.ref TI) rfl ?_);refine yL (zU hTI rfl ?_);show wpAny _ _ (Builtin.SmallTypes.ownedTupleIsFree (.ref z) >>= _) _ _ _;refine yL (kO hz hT fun h₁ hz₁ hs₁=>?_)
 rw [yM zj];refine yL ?_;rw [<- Array.forIn_toList];simp only [AS,List.forIn_nil];refine yL (yL (zY ?_));show wpAny _ _ (Builtin.SmallTypes.nextOf (.ref i1) >>= _) _ _ _;cases hx:xs[n1]? with
 | none =>
  exact yL (eW hh (h1.ext hs₁.extBut D.i1z) (hl1.ext hs₁.extBut D.l1z) hx fun h₂ e hs₂ he=>hE h₂ e (fun c o c1 c3 _ x=>hs₂ _ _ c3 (hs₁.extBut _ _ c1 x)) he)
 | some x =>
  have hy:ys[n2]?=none:=by rcases hend with h | h; rw [hx] at h; cases h; exact h
  refine yL (dS (h1.ext hs₁.extBut D.i1z) (hl1.ext hs₁.extBut D.l1z) hx fun h₂ h1₂ hs₂=>yQ (yQ ?_))
  refine yL (yL (zY ?_));show wpAny _ _ (Builtin.SmallTypes.nextOf (.ref i2) >>= _) _ _ _;exact yL (eW hh ((h2.ext hs₁.extBut D.i2z).ext hs₂.extBut D.i12.symm) ((hl2.ext hs₁.extBut D.l2z).ext hs₂.extBut D.l2i1) hy fun h₄ e hs₄ he =>
   hE h₄ e (fun c o c1 c3 c4 x=>hs₄ _ _ c4 (hs₂.extBut _ _ c3 (hs₁.extBut _ _ c1 x))) he)
theorem tm {k1 k2:SK}{z TI TO i1 i2 l1 l2:Addr}{n1 n2:Nat}{xs ys:Array Value}{x y a b:Value}{Q:Option Value->Shared->Prop} (D:ZipApart z TI TO i1 i2 l1 l2)
  (hz:IsZip s.heap z TI TO .none) (hTI:IsPair s.heap TI (.ref i1) (.ref i2)) (hTO:IsPair s.heap TO a b)
  (h1:SIt k1 s.heap i1 l1 n1) (h2:SIt k2 s.heap i2 l2 n2) (hl1:SIs k1 s.heap l1 xs) (hl2:SIs k2 s.heap l2 ys) (hx:xs[n1]?=some x) (hy:ys[n2]?=some y)
  (hQ:∀ h',IsZipK h' z TI TO s.heap.objs.size false->SIt k1 h' i1 l1 (n1 + 1)->SIt k2 h' i2 l2 (n2 + 1)->IsPair h' s.heap.objs.size x y ->
   (∀ c o,c≠z->c≠TO->c≠i1->c≠i2->s.heap.get? c=some o->h'.get? c=some o)->Q (some (.ref s.heap.objs.size)) { s with heap:=h' }):wpAny (model prog w) A (pyNext (.ref z)) Q E s:=by
 have hT:s.TypeIs (.ref z) "zip" := ⟨_,hz,rfl⟩;unfold pyNext;exact yL (AH (Ak (name:=Str.ofString "__next__") hT Am
  (Al Am hT F.entry_zip_next (kE D hz hTI hTO h1 h2 hl1 hl2 hx hy fun h' a1 a2 a3 a4 a5 a6 a7=>yQ (hQ h' a1 a3 a4 a5 a7)) (F.args_zip_next_1 _))))
theorem tq {k1 k2:SK}{z TI TO T i1 i2 l1 l2:Addr}{f1:Bool}{o:Obj}{n1 n2:Nat}{xs ys:Array Value}{x y:Value}{Q:Option Value->Shared->Prop} (D:ZipApart z TI TO i1 i2 l1 l2)
  (hz:IsZipK s.heap z TI TO T f1) (hT:s.heap.get? T=some o) (hTI:IsPair s.heap TI (.ref i1) (.ref i2))
  (h1:SIt k1 s.heap i1 l1 n1) (h2:SIt k2 s.heap i2 l2 n2) (hl1:SIs k1 s.heap l1 xs) (hl2:SIs k2 s.heap l2 ys) (hx:xs[n1]?=some x) (hy:ys[n2]?=some y)
  (hQ:∀ h',IsZipK h' z TI TO T true->SIt k1 h' i1 l1 (n1 + 1)->SIt k2 h' i2 l2 (n2 + 1)->IsPair h' s.heap.objs.size x y ->
   (∀ c o,c≠z->c≠i1->c≠i2->s.heap.get? c=some o->h'.get? c=some o)->Q (some (.ref s.heap.objs.size)) { s with heap:=h' }):wpAny (model prog w) A (pyNext (.ref z)) Q E s:=by
 have hT':s.TypeIs (.ref z) "zip" := ⟨_,hz,rfl⟩;unfold pyNext;exact yL (AH (Ak (name:=Str.ofString "__next__") hT' Am
  (Al Am hT' F.entry_zip_next (s9 D hz hT hTI h1 h2 hl1 hl2 hx hy fun h' a1 a2 a3 a4 a5=>yQ (hQ h' a1 a2 a3 a4 a5)) (F.args_zip_next_1 _))))
theorem tD {z:Addr}{Q:Option Value->Shared->Prop}{P:Heap->Prop} (hT:s.TypeIs (.ref z) "zip")
  (h:∀ (Q':Fin->Shared->Prop) (E':Value->Shared->Prop),(∀ h' e,P h'->(∃ o,h'.get? e=some o/\o.cls=.type "StopIteration")->E' (.ref e) { s with heap:=h' })->wpAny (model prog w) A.in1 (Builtin.«zip.__next__» ⟨[.ref z],[]⟩) Q' E' s)
  (hQ:∀ h',P h'->Q none { s with heap:=h' }):wpAny (model prog w) A (pyNext (.ref z)) Q E s:=by
 unfold pyNext;refine yL (AH (Ak (name:=Str.ofString "__next__") hT Am
  (Al Am hT F.entry_zip_next (h _ _ fun h' e hk he=>?_) (F.args_zip_next_1 _))))
 obtain ⟨o,ho,hc'⟩:=he;refine yL (wpAny_isInstance (T := "StopIteration") (b:=true) ⟨o,ho,hc'⟩ isSubtype_stop ?_);exact yQ (hQ h' hk)
end
section
variable {prog:Program}{w:World}{A:Around}{R:Result->Shared->Prop}
theorem tE {k1 k2:SK}{z TI TO i1 i2 l1 l2 S:Addr}{xs ys:List Value} (D:ZipApart z TI TO i1 i2 l1 l2) (hh:A.handled=none) (hS:S≠z/\S≠TI/\S≠TO/\S≠i1/\S≠i2/\S≠l1/\S≠l2) (hl:xs.length=ys.length) (hsz:xs.length<=sizeLine) (g:Heap) :
  ∀ (k i:Nat) (s:Shared) (us:List Value) (c:Nat),xs.length - i=k->us.length=i->i<=xs.length->TO < s.heap.objs.size ->
  ((i=0/\IsZip s.heap z TI TO .none/\∃ a b,IsPair s.heap TO a b)\/∃ T f1 o,IsZipK s.heap z TI TO T f1/\s.heap.get? T=some o/\T≠z/\T≠i1/\T≠i2/\T≠S)->IsPair s.heap TI (.ref i1) (.ref i2) ->
  SIt k1 s.heap i1 l1 i->SIt k2 s.heap i2 l2 i->SIs k1 s.heap l1 xs.toArray->SIs k2 s.heap l2 ys.toArray->s.heap.get? S=some { cls:=.type "list",data:=.seq us.toArray c } ->
  (∀ (j:Nat) (u:Value),us[j]?=some u->∃ (t:Addr) (x y:Value),u=.ref t/\xs[j]?=some x/\ys[j]?=some y/\IsPair s.heap t x y/\g.get? t=none/\t≠z/\t≠TO/\t≠i1/\t≠i2/\t≠S) ->
  (∀ b o,g.get? b=some o->s.heap.get? b=some o\/b=z\/b=TO\/b=i1\/b=i2\/b=S) ->
  (∀ (h':Heap) (us':List Value) (c':Nat),h'.get? S=some { cls:=.type "list",data:=.seq us'.toArray c' }->us'.length=xs.length->(∀ (j:Nat) (u:Value),us'[j]?=some u->∃ (t:Addr) (x y:Value),u=.ref t/\xs[j]?=some x/\ys[j]?=some y/\IsPair h' t x y/\g.get? t=none/\t≠S) ->
   (∀ b o,b≠z->b≠TO->b≠i1->b≠i2->b≠S->s.heap.get? b=some o->h'.get? b=some o)->R (.ok (.ret .none)) { s with heap:=h' }) ->
  codeAny (model prog w) A (.builtin "list.extend.loop" ⟨[.ref S,.ref z,.none],[]⟩) R s:=by
 obtain ⟨S1,S2,S3,S4,S5,S6,S7⟩:=hS;intro k
 induction k with
 | zero =>
  intro i s us c hk hu hi hTOl hz hTI h1 h2 q1 q2 hSo hus hg hR;have hin:i=xs.length:=by omega
  refine codeAny_builtin F.entry_extend_loop ?_;rw [Around.under_plainId F.plain_extend_loop _];show wpAny _ A.in1 (pyNext (.ref z) >>= _) _ _ s;have e1:xs.toArray[i]?=none:=by simp; omega
  refine yL (tD (P:=fun h'=>∀ c o,c≠z->c≠TO->c≠i1->c≠i2->s.heap.get? c=some o->h'.get? c=some o) ?_ (fun Q' E' hE=>?_) fun h' hk'=>?_)
  ·rcases hz with ⟨_,hz,_⟩ | ⟨T,f1,o,hz,_⟩
   ·exact ⟨_,hz,rfl⟩
   ·exact ⟨_,hz,rfl⟩
  ·rcases hz with ⟨_,hz,a,b,hTO⟩ | ⟨T,f1,o,hz,hT,_⟩
   ·exact kF (by first | exact hh | (show A.in1.in1.handled=none; exact hh)) D hz hTI hTO h1 h2 q1 q2 (.inl e1) hE
   ·exact tj (by first | exact hh | (show A.in1.in1.handled=none; exact hh)) D hz hT hTI h1 h2 q1 q2 (.inl e1) fun h' e hk he=>hE h' e (fun c o c1 _ c3 c4 x=>hk c o c1 c3 c4 x) he
  ·refine yQ (hR h' us c (hk' _ _ S1 S3 S4 S5 hSo) (by omega) (fun j u hj=>?_) fun b o b1 b2 b3 b4 _ e=>hk' b o b1 b2 b3 b4 e)
   obtain ⟨t,x,y,e,ex,ey,ht,hn,t1,t2,t3,t4,t5⟩:=hus j u hj;exact ⟨t,x,y,e,ex,ey,hk' t _ t1 t2 t3 t4 ht,hn,t5⟩
 | succ k ih =>
  intro i s us c hk hu hi hTOl hz hTI h1 h2 q1 q2 hSo hus hg hR;have hlt:i < xs.length:=by omega
  have hlt2:i < ys.length:=by omega
  refine codeAny_builtin F.entry_extend_loop ?_;rw [Around.under_plainId F.plain_extend_loop _];show wpAny _ A.in1 (pyNext (.ref z) >>= _) _ _ s;have ex:xs.toArray[i]?=some xs[i]:=by simp [hlt]
  have ey:ys.toArray[i]?=some ys[i]:=by simp [hlt2]
  have lt:∀ b o,s.heap.get? b=some o->b < s.heap.objs.size:=fun b o e=>yT e
  have zlt:z < s.heap.objs.size:=by
   rcases hz with ⟨_,hz,_⟩ | ⟨T,f1,o,hz,_⟩
   ·exact lt _ _ hz
   ·exact lt _ _ hz
  have i1lt:i1 < s.heap.objs.size:=let ⟨o,e,_⟩:=h1.obj; lt _ _ e;have i2lt:i2 < s.heap.objs.size:=let ⟨o,e,_⟩:=h2.obj; lt _ _ e;have Slt:S < s.heap.objs.size:=lt _ _ hSo;have rest:∀ h',IsPair h' s.heap.objs.size xs[i] ys[i]->(∃ T f1 o,IsZipK h' z TI TO T f1/\h'.get? T=some o/\T≠z/\T≠i1/\T≠i2/\T≠S)->SIt k1 h' i1 l1 (i + 1)->SIt k2 h' i2 l2 (i + 1) ->
    (∀ c o,c≠z->c≠TO->c≠i1->c≠i2->s.heap.get? c=some o->h'.get? c=some o) ->
    wpAny (model prog w) A.in1 (updateSeq S (·.push (.ref s.heap.objs.size)) >>= fun _=>again (.builtin "list.extend.loop" ⟨[.ref S,.ref z,.none],[]⟩))
     (fun fin s'=>match fin with | .done f=>R (.ok f) s' | .again c'=>c'.quiet=true/\codeAny (model prog w) A c' R s') (fun e s'=>R (.error e) s') { s with heap:=h' }:=by
   intro h' hp hz' h1' h2' kk;have hTOn:s.heap.objs.size≠TO:=zB hTOl;have hSo':h'.get? S=some { cls:=.type "list",data:=.seq us.toArray c }:=kk _ _ S1 S3 S4 S5 hSo;refine yL (wpAny_updateSeq hSo' rfl (yQ ⟨plainId_quiet F.plain_extend_loop _,?_⟩) (by simp; omega) (by simp; omega))
   have oth:∀ b o,b≠S->h'.get? b=some o->(h'.update S (Obj.mapSeq (·.push (.ref s.heap.objs.size)))).get? b=some o:=fun b o hb e=>(AO _ _ (yV hb)).trans e
   have hS2:=AN (Obj.mapSeq (·.push (Value.ref s.heap.objs.size))) hSo' rfl;have ea:(us++[Value.ref s.heap.objs.size]).toArray=us.toArray.push (.ref s.heap.objs.size):=by simp
   have hlq:SIs k1 h' l1 xs.toArray:=q1.at fun o e=>kk _ o D.l1z D.l1TO D.l1i1 D.l1i2 e
   have hlq2:SIs k2 h' l2 ys.toArray:=q2.at fun o e=>kk _ o D.l2z D.l2TO D.l2i1 D.l2i2 e
   refine ih (i + 1) _ (us++[.ref s.heap.objs.size]) _ (by omega) (by simp [hu]) hlt (Ar hTOl (yT (oth _ _ (zB Slt) hp))) (.inr ?_) (oth _ _ (yV S2) (kk _ _ D.TIz D.TITO D.TIi1 D.TIi2 hTI)) (h1'.at fun o e=>oth _ o (yV S4) e) (h2'.at fun o e=>oth _ o (yV S5) e)
    (hlq.at fun o e=>oth _ o (yV S6) e) (hlq2.at fun o e=>oth _ o (yV S7) e) (by rw [ea]; exact hS2) (fun j u hj=>?_) (fun b o e=>?_) fun h'' us' c' a1 a2 a3 a4=>hR h'' us' c' a1 a2 a3 fun b o b1 b2 b3 b4 b5 e=>a4 b o b1 b2 b3 b4 b5 (oth b o b5 (kk b o b1 b2 b3 b4 e))
   ·obtain ⟨T,f1,o,z1,z2,z3,z4,z5,z6⟩:=hz'
    exact ⟨T,f1,o,oth _ _ (yV S1) z1,oth _ _ z6 z2,z3,z4,z5,z6⟩
   ·by_cases hjl:j < us.length
    ·rw [zb hjl] at hj
     obtain ⟨t,x,y,e,x1,y1,ht,hn,t1,t2,t3,t4,t5⟩:=hus j u hj;exact ⟨t,x,y,e,x1,y1,oth _ _ t5 (kk _ _ t1 t2 t3 t4 ht),hn,t1,t2,t3,t4,t5⟩
    ·have hj':j=us.length:=by
      have:=(yR.mp hj).1;simp at this; omega
     subst hj';rw [zw (yP _)] at hj;simp at hj;refine ⟨s.heap.objs.size,xs[i],ys[i],hj.symm,by rw [hu]; exact yO hlt,by rw [hu]; exact yO hlt2,oth _ _ (zB Slt) hp,?_,zB zlt,hTOn,zB i1lt,zB i2lt,zB Slt⟩
     cases q:g.get? s.heap.objs.size with
     | none=>rfl
     | some o =>
      rcases hg _ o q with z' | z' | z' | z' | z' | z'
      ·exact absurd (lt _ _ z') (zN _)
      ·exact absurd z'.symm (y9 zlt)
      ·exact absurd z' hTOn
      ·exact absurd z'.symm (y9 i1lt)
      ·exact absurd z'.symm (y9 i2lt)
      ·exact absurd z'.symm (y9 Slt)
   ·rcases hg b o e with z' | z' | z' | z' | z' | z'
    ·by_cases b5:b=S
     ·exact .inr (.inr (.inr (.inr (.inr b5))))
     by_cases b1:b=z
     ·exact .inr (.inl b1)
     by_cases b2:b=TO
     ·exact .inr (.inr (.inl b2))
     by_cases b3:b=i1
     ·exact .inr (.inr (.inr (.inl b3)))
     by_cases b4:b=i2
     ·exact .inr (.inr (.inr (.inr (.inl b4))))
     exact .inl (oth b o b5 (kk b o b1 b2 b3 b4 z'))
    ·exact .inr (.inl z')
    ·exact .inr (.inr (.inl z'))
    ·exact .inr (.inr (.inr (.inl z')))
    ·exact .inr (.inr (.inr (.inr (.inl z'))))
    ·exact .inr (.inr (.inr (.inr (.inr z'))))
  rcases hz with ⟨hi0,hz,a,b,hTO⟩ | ⟨T,f1,o,hz,hT,T1,T2,T3,T4⟩
  ·refine yL (tm D hz hTI hTO h1 h2 q1 q2 ex ey fun h' a1 a2 a3 a4 a5=>?_)
   exact rest h' a4 ⟨s.heap.objs.size,false,_,a1,a4,zB zlt,zB i1lt,zB i2lt,zB Slt⟩ a2 a3 a5
  ·refine yL (tq D hz hT hTI h1 h2 q1 q2 ex ey fun h' a1 a2 a3 a4 a5=>?_)
   exact rest h' a4 ⟨T,true,o,a1,a5 _ _ T1 T2 T3 hT,T1,T2,T3,T4⟩ a2 a3 fun c o c1 _ c3 c4 e=>a5 c o c1 c3 c4 e
end
theorem tF:typeLookup (.type "zip") "__len__" = pure none:=by rw [typeLookup_type,builtinLookup_eq_fast]; kernel_rfl
theorem tG:typeLookup (.type "zip") "__length_hint__" = pure none:=by rw [typeLookup_type,builtinLookup_eq_fast]; kernel_rfl
section
variable {prog:Program}{w:World}{A:Around}{E:Value->Shared->Prop}{s:Shared}
theorem tH {k1 k2:SK}{z TI TO i1 i2 l1 l2:Addr}{xs ys:List Value}{a b:Value}{Q:Value->Shared->Prop} (D:ZipApart z TI TO i1 i2 l1 l2) (hh:A.handled=none) (hl:xs.length=ys.length) (hsz:xs.length<=sizeLine)
  (hz:IsZip s.heap z TI TO .none) (hTI:IsPair s.heap TI (.ref i1) (.ref i2)) (hTO:IsPair s.heap TO a b) (h1:SIt k1 s.heap i1 l1 0) (h2:SIt k2 s.heap i2 l2 0) (q1:SIs k1 s.heap l1 xs.toArray) (q2:SIs k2 s.heap l2 ys.toArray)
  (h:∀ (h':Heap) (us:List Value) (c:Nat),h'.get? s.heap.objs.size=some { cls:=.type "list",data:=.seq us.toArray c }->us.length=xs.length ->
   (∀ (j:Nat) (u:Value),us[j]?=some u->∃ (t:Addr) (x y:Value),u=.ref t/\xs[j]?=some x/\ys[j]?=some y/\IsPair h' t x y/\s.heap.get? t=none/\t≠s.heap.objs.size) ->
   (∀ b o,b≠z->b≠TO->b≠i1->b≠i2->s.heap.get? b=some o->h'.get? b=some o)->Q (.ref s.heap.objs.size) { s with heap:=h' }) :
  wpAny (model prog w) A (call (.type "list") [.ref z]) Q E s:=by
 refine callType_codes (Q₁:=fun obj s₁=>obj=.ref s.heap.objs.size/\s₁={ s with heap:=s.heap.push { cls:=.type "list",data:=.seq #[] } }) F.called_list (F.typeCall_list_1 _) F.entry_list_init
  (code_list_new _ ⟨rfl,rfl⟩) fun obj s₁ h₁=>?_
 obtain ⟨rfl,rfl⟩:=h₁;have hS:(s.heap.push { cls:=.type "list",data:=.seq #[] }).get? s.heap.objs.size=some { cls:=.type "list",data:=.seq #[] }:=zq _ rfl;refine ⟨⟨_,hS,rfl⟩,F.args_list_init_2 _ _,?_⟩;have lt:∀ b o,s.heap.get? b=some o->b≠s.heap.objs.size:=fun b o e=>y9 (yT e)
 have zS:=lt _ _ hz;have TIS:=lt _ _ hTI;have TOS:=lt _ _ hTO;have i1S:i1≠s.heap.objs.size:=let ⟨o,e,_⟩:=h1.obj; lt _ _ e;have i2S:i2≠s.heap.objs.size:=let ⟨o,e,_⟩:=h2.obj; lt _ _ e;have l1S:l1≠s.heap.objs.size:=y9 q1.lt;have l2S:l2≠s.heap.objs.size:=y9 q2.lt;show wpAny _ A.in1.in1 (do let old <- Builtin.List.listItems (.ref s.heap.objs.size); Builtin.List.listUpdate (.ref s.heap.objs.size) (fun _=>#[]); letGo old.toList.reverse; Builtin.List.listExtendWith (.ref s.heap.objs.size) (.ref z) .none) _ _ _
 refine yL ?_;unfold Builtin.List.listItems;refine yL (zU hS rfl (yQ ?_));show wpAny _ A.in1.in1 (updateSeq s.heap.objs.size (fun _=>#[]) >>= fun _=>letGo (#[]:Array Value).toList.reverse >>= fun _=>Builtin.List.listExtendWith (.ref s.heap.objs.size) (.ref z) .none) _ _ _
 refine yL (wpAny_updateSeq hS rfl ?_);have hS₂:=AN (Obj.mapSeq (fun _=>(#[]:Array Value))) hS rfl
 have oth:∀ b o,s.heap.get? b=some o->((s.heap.push { cls:=.type "list",data:=.seq #[] }).update s.heap.objs.size (Obj.mapSeq (fun _=>(#[]:Array Value)))).get? b=some o :=
  fun b o e=>(AO _ _ (yV (lt b o e))).trans (yW _ e)
 generalize hg1:(s.heap.push { cls:=.type "list",data:=.seq #[] }).update s.heap.objs.size (Obj.mapSeq (fun _=>(#[]:Array Value)))=g1 at hS₂ oth ⊢
 refine yL (wpAny_letGo ?_);unfold Builtin.List.listExtendWith;refine yL (wpAny_typeOf (T := "zip") (⟨_,oth _ _ hz,rfl⟩:Shared.TypeIs _ (.ref z) "zip") ?_);have e1:Builtin.List.listSameRef (.ref s.heap.objs.size) (.ref z)=false:=by simp [Builtin.List.listSameRef,yV zS]
 have e2:(Value.type "zip" == Value.type "list")=false:=by decide
 have e3:(Value.type "zip" == Value.type "tuple")=false:=by decide
 simp only [e1,e2,e3,Bool.or_false,Bool.false_eq_true,if_false];refine yL (wpAny_pyIter_zip (oth _ _ hz) ?_);refine yL (zY ?_);unfold Builtin.List.listLengthHint;refine yL (wpAny_specialOf (T := "zip") (⟨_,oth _ _ hz,rfl⟩:Shared.TypeIs _ (.ref z) "zip") tF ?_);show wpAny _ A.in1.in1 (specialOf (Value.ref z) (Str.ofString "__length_hint__") >>= _) _ _ _;refine yL (wpAny_specialOf (T := "zip") (⟨_,oth _ _ hz,rfl⟩:Shared.TypeIs _ (.ref z) "zip") tG ?_);refine yQ ?_;show wpAny _ A.in1.in1 (rule "list.extend.makes-room" >>= fun _=>Builtin.List.listTouch (.ref s.heap.objs.size) >>= fun _ =>
  again (.builtin "list.extend.loop" ⟨[.ref s.heap.objs.size,.ref z,.none],[]⟩)) _ _ _
 refine yL (wpAny_rule ?_);refine yL ?_;show wpAny _ A.in1.in1 (updateSeq s.heap.objs.size (·.push .none) >>= fun _=>updateSeq s.heap.objs.size (·.pop)) _ _ _
 refine yL (wpAny_updateSeq hS₂ rfl ?_);have hS₃:=AN (Obj.mapSeq (·.push Value.none)) hS₂ rfl;refine wpAny_updateSeq (hz:=by seq_fits) hS₃ rfl ?_
 have hS₄:=AN (Obj.mapSeq (·.pop)) hS₃ rfl;have oth2:∀ b o,s.heap.get? b=some o->((g1.update s.heap.objs.size (Obj.mapSeq (·.push Value.none))).update s.heap.objs.size (Obj.mapSeq (·.pop))).get? b=some o :=
  fun b o e=>(AO _ _ (yV (lt b o e))).trans ((AO _ _ (yV (lt b o e))).trans (oth b o e))
 generalize hg2:(g1.update s.heap.objs.size (Obj.mapSeq (·.push Value.none))).update s.heap.objs.size (Obj.mapSeq (·.pop))=g2 at hS₄ oth2 ⊢;refine yQ ⟨plainId_quiet F.plain_extend_loop _,?_⟩;refine tE (A:=A.in1) (S:=s.heap.objs.size) D hh ⟨yV zS,yV TIS,yV TOS,yV i1S,yV i2S,yV l1S,yV l2S⟩ hl hsz s.heap xs.length 0 _ [] _ rfl rfl (zZ _) (yT (oth2 _ _ hTO))
  (.inl ⟨rfl,oth2 _ _ hz,a,b,oth2 _ _ hTO⟩) (oth2 _ _ hTI) (h1.at fun o e=>oth2 _ o e) (h2.at fun o e=>oth2 _ o e) (q1.at fun o e=>oth2 _ o e) (q2.at fun o e=>oth2 _ o e) hS₄ (fun j u hj=>by simp at hj) (fun b o e=>.inl (oth2 b o e)) fun h' us c a1 a2 a3 a4=>?_
 exact ⟨rfl,h h' us c a1 a2 a3 fun b o b1 b2 b3 b4 e=>a4 b o b1 b2 b3 b4 (lt b o e) (oth2 b o e)⟩
end
end L2

namespace L2
open PySem PySem.Spec PyProof.Rows
variable{P:Program}{w:World}{H:Hp}{h:Heap}{a:Addr}
section
variable {X:Cx}{pins:List (Addr × Obj)}{σ:List (Option V)}{H H':Hp}{s:Shared}{h':Heap}
theorem Inv.grow {t':Nat} (I:Inv X pins σ H s) (k:∀ b ob,s.heap.get? b=some ob->h'.get? b=some ob) (hsub:∀ b o,H b=some o->H' b=some o)
  (hnew:∀ b o,H b=none->H' b=some o->s.heap.get? b=none/\ObjOk X.prog X.w H' h' b o):Inv X pins σ H' { s with heap:=h',toks:=t' }:=by
 refine I.step (g':=s.gens) (d':=s.drawn) (ch:=[]) (fun b hb=>nomatch hb) (fun b ob _ _ _ e _=>k b ob e) (fun b ob _ _ _ e _=>⟨ob.slots,k b ob e⟩) (fun b ob _ e n=>?_)
  (fun b ob _ e=>⟨ob,k b ob e⟩) (fun b _ e=>hsub b _ e) (fun b _ _ e=>hsub b _ e) (fun b ps e=>⟨#[],by rw [hsub b _ e]; simp⟩) (fun m hm=>?_) (fun b u e=>?_) I.bare
 ·cases q:H' b with
  | none=>rfl
  | some o=>have:=(hnew b o n q).1; rw [e] at this; cases this
 ·obtain ⟨ob,es,ep,ho,r⟩:=hm
  exact ⟨ob,es,ep,k _ ob ho,r⟩
 ·cases q:H b with
  | none=>exact (hnew b u q e).2
  | some o =>
   have:=hsub b o q;rw [e] at this;have e':u=o:=zp this;subst e';exact (I.hok b u q).stay (fun c v hc r=>k c v r) (fun c q=>hsub c _ q) fun c xs q=>hsub c _ q
end
theorem ObjOk.has:∀ {o:HO},ObjOk P w H h a o->∃ ob,h.get? a=some ob
 | .lst _,⟨_,_,_,_,e⟩=>⟨_,e⟩
 | .tup _,⟨_,_,_,o,e,_⟩=>⟨o,e⟩
 | .dK _,⟨_,_,_,_,o,_,_,e,_⟩=>⟨o,e⟩
 | .dT _,⟨_,_,_,_,o,_,_,e,_⟩=>⟨o,e⟩
 | .set _ _,⟨o,_,_,_,e,_⟩=>⟨o,e⟩
 | .ins _ _ _,⟨_,_,_,e,_⟩=>⟨_,e⟩
 | .own _,x=>x
 | .xd _,⟨_,⟨o,_,_,e,_⟩,_⟩=>⟨o,e⟩
 | .rng _ _,⟨_,_,_,e⟩=>⟨_,e⟩
 | .frz _ _,⟨e,_⟩=>⟨_,e⟩
 | .tbl _,e=>⟨_,e⟩
 | .met _ _,e=>⟨_,e⟩
 | .ext _,⟨_,e,_⟩=>e
theorem HOk.has {P:Program}{w:World}{H:Hp}{o:HO} (x:HOk P w H h) (e:H a=some o):∃ ob,h.get? a=some ob:=(x a o e).has
theorem kP {α:Type}:∀ {l:List (Addr × α)}{b:Addr}{o:α},l.lookup b=some o->∃ i:Nat,l[i]?=some (b,o)
 | [],_,_,h=>by simp at h
 | (n,k) :: r,b,o,h=>by
  rw [Ab] at h;cases hx:b == n with
  | true =>
   rw [hx] at h;have e:b=n:=by simpa using hx
   have e2:k=o:=by simpa using h
   exact ⟨0,by rw [e,e2]; rfl⟩
  | false =>
   rw [hx] at h;obtain ⟨i,e⟩:=kP h;exact ⟨i + 1,by simpa using e⟩
section
variable {X:Cx}
def tLZ (K:PySem.W.Frag) (k1 k2:SK) (ta:TA):TE:=fun σ H Q=>ta σ H fun vs H1=>∃ a b xs ys,vs=[.ref a,.ref b]/\Sq k1 K H1 a xs/\Sq k2 K H1 b ys/\xs.length=ys.length/\xs.length<=sizeLine /\
 ∀ (p:Addr) (ts:List Addr) (H':Hp),Ch [] H1 H'->H1 p=none->H' p=some (.lst (ts.map V.ref))->ts.length=xs.length ->
  (∀ (i:Nat) (t:Addr) (x y:V),ts[i]?=some t->xs[i]?=some x->ys[i]?=some y->H' t=some (.tup [x,y]))->Q (.ref p) H'
def adr:Value->Addr
 | .ref a=>a
 | _=>0
theorem tI (k1 k2:SK) {a b:Expr}{ta:TA}{p1 p2 p3 p4:Pos} (hc:X.calm=true) (hgl:Gl X "list") (hml:X.mg "list" = none) (hgz:Gl X "zip") (hmz:X.mg "zip" = none) (ha:PA X [a,b] ta)
  (hs:starEach [a,b] X.env=[(false,eval a X.env),(false,eval b X.env)]:=by rfl) (hs2:starEach [b] X.env=[(false,eval b X.env)]:=by rfl)
  (hsz:starEach [.Call (.Name "zip" p2) [a,b] [] p3] X.env=[(false,eval (.Call (.Name "zip" p2) [a,b] [] p3) X.env)]:=by rfl) :
  PE X (.Call (.Name "list" p1) [.Call (.Name "zip" p2) [a,b] [] p3] [] p4) (tLZ X.K k1 k2 ta):=by
 intro pins s σ H Q I h;refine Call_ (dh I hgl hml PyProof.Rows.Boot.«list» (Ay ?_ hsz rfl));rw [hsz];refine Calls.spliced_cons ?_;refine Call_ (dh I hgz hmz boot_zip (Ay (thn (ha p3 pins s σ H _ I h) fun us s1 ⟨vs,H1,I1,r1,q1⟩=>?_) (by rw [hs,hs2]) (by rw [hs2]; rfl)))
 obtain ⟨a',b',xs,ys,e,qx,qy,hl,hz,q⟩:=q1;subst e;obtain ⟨u,v,rfl,ru,rv⟩:=vals2 r1;cases ru;cases rv;obtain ⟨ix,rx,px⟩:=I1.sis qx;obtain ⟨iy,ry,py⟩:=I1.sis qy;refine kG px py fun h' b1 b2 b3 b4 b5 b6=>Calls.spliced_nil ?_
 have lx:=rx.length;have ly:=ry.length;have hh:X.A.handled=none:=I.ok.hd hc;refine tH (s:={ s1 with heap:=h' }) (k1:=k1) (k2:=k2) (xs:=ix) (ys:=iy) (zipApart_new px.lt py.lt) hh (by omega) (by omega) b1 b2 b3 b4 b5 (px.at fun o e=>b6 _ o e) (py.at fun o e=>b6 _ o e) fun h2 ts c a1 a2 a3 a4=>?_
 have old:∀ b o,s1.heap.get? b=some o->h2.get? b=some o:=fun b o e=>by
  have:=yT e;exact a4 b o (y9 (zr this (As _ _))) (y9 (zr this (As _ _))) (y9 this) (y9 (zr this (As _ _))) (b6 b o e)
 have fresh:∀ b,h'.get? b=none->s1.heap.get? b=none:=fun b e=>by
  cases z:s1.heap.get? b with
  | none=>rfl
  | some o=>rw [b6 b o z] at e; cases e
 let tl:List (Addr × HO):=(ts.map adr).zip ((xs.zip ys).map fun p=>HO.tup [p.1,p.2])
 let Hn:Hp:=fun b=>if b=h'.objs.size then some (.lst ((ts.map adr).map V.ref)) else if (H1 b).isSome then H1 b else tl.lookup b
 have pnew:s1.heap.get? h'.objs.size=none:=fresh _ (Heap.get?_none_of_le (yP _));have pH:H1 h'.objs.size=none:=by
  refine I1.hok.fresh ?_;exact zy (As _ 4) (zF (yT b1))
 have at_:∀ (i:Nat) (t:Addr) (x y:V),(ts.map adr)[i]?=some t->xs[i]?=some x->ys[i]?=some y->Hn t=some (.tup [x,y])/\s1.heap.get? t=none/\ObjOk X.prog X.w Hn h2 t (.tup [x,y]):=by
  intro i t x y et ex ey;have pair:∀ (j:Nat) (t':Addr) (x' y':V),(ts.map adr)[j]?=some t'->xs[j]?=some x'->ys[j]?=some y'->∃ ux uy,RelV x' ux/\RelV y' uy/\IsPair h2 t' ux uy/\h'.get? t'=none/\t'≠h'.objs.size:=by
   intro j t' x' y' e1 e2 e3;rw [yY] at e1;cases eu:ts[j]? with
   | none=>rw [eu] at e1; cases e1
   | some u =>
    rw [eu] at e1;obtain ⟨tt,ux,uy,rfl,eux,euy,hp,hn,hne⟩:=a3 j u eu;have:tt=t':=by simpa [adr] using e1
    subst this;obtain ⟨u1,f1,g1⟩:=rx.get e2;obtain ⟨u2,f2,g2⟩:=ry.get e3;rw [eux] at f1; rw [euy] at f2;have w1:ux=u1:=zp f1;have w2:uy=u2:=zp f2;subst w1 w2;exact ⟨ux,uy,g1,g2,hp,hn,hne⟩
  obtain ⟨ux,uy,r1,r2,hp,hn,hne⟩:=pair i t x y et ex ey;have hs1:=fresh t hn;have hH1:H1 t=none:=by
   cases z:H1 t with
   | none=>rfl
   | some o =>
    obtain ⟨oo,hoo⟩:=(I1.hok.has z);rw [hs1] at hoo; cases hoo
  have hlk:tl.lookup t=some (.tup [x,y]):=by
   have key:∀ (l:List (Addr × HO)),(∀ (j:Nat) (p:Addr × HO),l[j]?=some p->p.1=t->p.2=.tup [x,y])->(∃ (j:Nat) (p:Addr × HO),l[j]?=some p/\p.1=t)->l.lookup t=some (.tup [x,y]):=by
    intro l
    induction l with
    | nil=>rintro _ ⟨j,p,e,_⟩; simp at e
    | cons p r ih =>
     rintro hall ⟨j,p',e,e'⟩;obtain ⟨p1,p2⟩:=p;rw [Ab];cases hq:t == p1 with
     | true =>
      have w:t=p1:=by simpa using hq
      have:=hall 0 (p1,p2) rfl w.symm;exact za some this
     | false =>
      refine ih (fun j p e=>hall (j + 1) p (by simpa using e)) ?_
      cases j with
      | zero =>
       simp at e;rw [<- e] at e';have:t=p1:=e'.symm;rw [this] at hq; simp at hq
      | succ j=>exact ⟨j,p',by simpa using e,e'⟩
   refine key tl (fun j p e e'=>?_) ⟨i,(t,.tup [x,y]),?_,rfl⟩
   ·have e:=zP.mp e
    obtain ⟨e1,e2⟩:=e;rw [yY] at e2;cases ez:(xs.zip ys)[j]? with
    | none=>rw [ez] at e2; cases e2
    | some xy =>
     rw [ez] at e2;obtain ⟨z1,z2⟩:=zP.mp ez;obtain ⟨vx,vy,s1',s2',hp',_⟩:=pair j p.1 xy.1 xy.2 e1 z1 z2;rw [e'] at hp';have hpp:h2.get? t=some { cls:=.type "tuple",data:=.seq #[ux,uy] }:=hp;have hpq:h2.get? t=some { cls:=.type "tuple",data:=.seq #[vx,vy] }:=hp';rw [hpp] at hpq;have w:(#[ux,uy]:Array Value)=#[vx,vy]:=by
      have:=zp hpq;injection this with _ _ w3
      injection w3
     have w0:[ux,uy]=[vx,vy]:=za Array.toList w;have w1:ux=vx:=(List.cons.inj w0).1;have w2:uy=vy:=(List.cons.inj (List.cons.inj w0).2).1;have q1:xy.1=x:=s1'.inj (w1 ▸ r1);have q2:xy.2=y:=s2'.inj (w2 ▸ r2);have:p.2=HO.tup [xy.1,xy.2]:=by simpa using e2.symm
     rw [this,q1,q2]
   ·refine zP.mpr ⟨et,?_⟩
    rw [yY];have:(xs.zip ys)[i]?=some (x,y):=zP.mpr ⟨ex,ey⟩;rw [this]; rfl
  have hHn:Hn t=some (.tup [x,y]):=by
   show (if t=h'.objs.size then _ else if (H1 t).isSome then H1 t else tl.lookup t)=_;rw [yM hne,hH1];exact hlk
  exact ⟨hHn,hs1,by show 2<=sizeLine; decide,[ux,uy],.cons r1 (.cons r2 .nil),⟨_,hp,rfl,_,rfl⟩⟩
 have sub:∀ b o,H1 b=some o->Hn b=some o:=fun b o e=>by
  show (if b=h'.objs.size then _ else if (H1 b).isSome then H1 b else tl.lookup b)=_;rw [yM (aY e pH),e]; rfl
 have HnP:Hn h'.objs.size=some (.lst ((ts.map adr).map V.ref)):=yN rfl;have tsl:ts.map (fun u=>Value.ref (adr u))=ts:=by
  refine A5 fun j=>?_
  rw [yY];cases eu:ts[j]? with
  | none=>rfl
  | some u =>
   obtain ⟨tt,ux,uy,rfl,_⟩:=a3 j u eu;rfl
 refine ⟨.ref h'.objs.size,Hn,I1.grow (t':=s1.toks) old sub (fun b o hn he=>?_),rfl,q _ (ts.map adr) Hn (fun b o e _=>sub b o e) pH HnP (by simp; omega) fun i t x y e1 e2 e3=>(at_ i t x y e1 e2 e3).1⟩
 by_cases hb:b=h'.objs.size
 ·subst hb
  rw [HnP] at he;cases he;refine ⟨pnew,by simp; omega,ts,c,?_,a1⟩
  have:Vals ((ts.map adr).map V.ref) (ts.map fun u=>Value.ref (adr u)):=by
   clear a1 a2 a3 tsl at_ sub HnP
   induction ts with
   | nil=>exact .nil
   | cons u r ih=>exact .cons rfl (ih)
  rw [tsl] at this;exact this
 ·have he':tl.lookup b=some o:=by
   have:(if b=h'.objs.size then some (HO.lst ((ts.map adr).map V.ref)) else if (H1 b).isSome then H1 b else tl.lookup b)=some o:=he;rw [yM hb,hn] at this;exact this
  have hm:=kP he';obtain ⟨i,ei⟩:=hm;obtain ⟨e1,e2⟩:=zP.mp ei;rw [yY] at e2;cases ez:(xs.zip ys)[i]? with
  | none=>rw [ez] at e2; cases e2
  | some xy =>
   rw [ez] at e2;obtain ⟨z1,z2⟩:=zP.mp ez;obtain ⟨c1,c2,c3⟩:=at_ i b xy.1 xy.2 e1 z1 z2;have:o=HO.tup [xy.1,xy.2]:=by simpa using e2.symm
   subst this;exact ⟨c2,c3⟩
theorem tJ{k:Key}{u:Value} (r:RelV (kV k) u):(mixKind P w).is k u=true:=cS r
theorem tK (hc:X.calm=true):CallR X (.type "dict") (fun xs H Q=>∃ (p:Addr) (ts:List Addr) (kvs:List (Key × V)),xs=[.ref p]/\H p=some (.lst (ts.map V.ref))/\ts.length=kvs.length /\
  (∀ (i:Nat) (t:Addr) (kv:Key × V),ts[i]?=some t->kvs[i]?=some kv->H t=some (.tup [kV kv.1,kv.2]))/\(kvs.map (·.1)).Nodup/\kvs.length<=sizeLine/\∀ d,H d=none->Q (.ref d) (upd H d (.dK kvs))):=by
 intro pins s σ H xs us Q I r h;obtain ⟨p,ts,kvs,rfl,hp,hlen,hts,hnd,hz,q⟩:=h;obtain ⟨u,rfl,ru⟩:=vals1 r;cases ru;obtain ⟨z,its,n,rv,e⟩:=I.hok p _ hp;have each:∀ (i:Nat) (kv:Key × V),kvs[i]?=some kv->∃ (t:Addr) (ku vu:Value),its[i]?=some (.ref t)/\s.heap.IsTuple t #[ku,vu]/\RelV (kV kv.1) ku/\RelV kv.2 vu:=by
  intro i kv ei;have hi:i < ts.length:=by rw [hlen]; exact (yR.mp ei).1
  have et:ts[i]?=some ts[i]:=yO hi;obtain ⟨u,eu,ru⟩:=rv.get (i:=i) (x:=.ref ts[i]) (by rw [yY,et]; rfl)
  cases ru;obtain ⟨_,us,r2,o,ho,hoc,no,hod⟩:=I.hok _ _ (hts i ts[i] kv et ei);obtain ⟨ku,vu,rfl,rk,rvv⟩:=vals2 r2;exact ⟨ts[i],ku,vu,eu,⟨o,ho,hoc,no,hod⟩,rk,rvv⟩
 have mk:∀ (l:List (Key × V)) (m:Nat),(∀ (i:Nat) (kv:Key × V),l[i]?=some kv->kvs[m + i]?=some kv)->∃ ps:List (Key × Value),KV l ps /\
   ∀ (i:Nat) (kv:Key × Value),ps[i]?=some kv->∃ (t:Addr) (key:Value),its[m + i]?=some (.ref t)/\s.heap.IsTuple t #[key,kv.2]/\(mixKind X.prog X.w).is kv.1 key=true:=by
  intro l
  induction l with
  | nil=>intro m _; exact ⟨[],.nil,fun i kv e=>by simp at e⟩
  | cons kv l ih =>
   intro m hm;obtain ⟨t,ku,vu,e1,e2,e3,e4⟩:=each m kv (by simpa using hm 0 kv rfl)
   obtain ⟨ps,h1,h2⟩:=ih (m + 1) fun i kv' e=>by
    have:=hm (i + 1) kv' (by simpa using e)
    rw [show m + 1 + i=m + (i + 1) by omega]; exact this
   refine ⟨(kv.1,vu) :: ps,.cons ⟨rfl,e4⟩ h1,fun i kv' e=>?_⟩
   cases i with
   | zero =>
    simp at e;subst e;exact ⟨t,ku,by simpa using e1,e2,tJ e3⟩
   | succ i =>
    obtain ⟨t',key,f1,f2,f3⟩:=h2 i kv' (by simpa using e)
    exact ⟨t',key,by rw [show m + (i + 1)=m + 1 + i by omega]; exact f1,f2,f3⟩
 obtain ⟨ps,kv,hps⟩:=mk kvs 0 fun i kv e=>by simpa using e
 have lps:kvs.length=ps.length:=Paired.length kv;have keys:ps.map (·.1)=kvs.map (·.1):=by
  clear hps mk each hts hnd hz q lps hlen;unfold KV at kv
  induction kv with
  | nil=>rfl
  | cons a _ ih=>rw [zG,zG,ih,a.1]
 refine sY (knd:=mixKind X.prog X.w) (ps:=ps) (I.ok.hd hc) e (by rw [<- rv.length]; simp; omega) (by omega) (fun j kv' ej=>by
  have:=hps j kv' ej
  simpa using this) fun h' tk hd hk=>?_
 rw [merged_nil_of_nodup ps (by rw [keys]; exact hnd)] at hd
 have hf:H s.heap.objs.size=none:=I.hok.fresh (yP _);refine ⟨.ref s.heap.objs.size,upd H s.heap.objs.size (.dK kvs),I.laid (t':=tk) hk (yP _) ?_,rfl,q _ hf⟩;exact ⟨hz,Af.mpr (yV (y9 I.big)),ps,kv,hd⟩
theorem tL {prog:Program}{A:Around}{bs:List Bool}:TruthOf prog w A (fun i v=>(bs.map fun b=>Value.bool b).toArray[i]?=some v) (fun i=>bs.getD i false):=by
 intro i v s Q E hP hQ;have hP':(bs.map fun b=>Value.bool b)[i]?=some v:=by simpa using hP
 rw [yY] at hP';cases e:bs[i]? with
 | none=>rw [e] at hP'; cases hP'
 | some b =>
  rw [e] at hP';cases hP';have:bs.getD i false=b:=by rw [zi,e]; rfl
  have hQ:Q (bs.getD i false) s:=hQ;rw [this] at hQ;exact yQ hQ
theorem tM (bs:List Bool):((List.range bs.length).all fun i=>bs.getD i false)=bs.all id:=by
 rw [A0,AU,AU]
 constructor
 ·intro h b hb
  obtain ⟨i,hi,rfl⟩:=List.mem_iff_getElem.mp hb;have:=h i (Ag.mpr hi);rw [zi,yO hi] at this;exact this
 ·intro h i hi
  have hi:=Ag.mp hi;rw [zi,yO hi];exact h _ (A6 hi)
theorem kQ:∀ {bs:List Bool}{its:List Value},Vals (bs.map V.bl) its->its=bs.map fun b=>Value.bool b
 | [],_,.nil=>rfl
 | b :: bs,_,.cons r t=>by rw [zG,kQ t]; cases r; rfl
theorem tN (hc:X.calm=true):CallR X (.builtin "all") (fun xs H Q=>∃ (p:Addr) (bs:List Bool),xs=[.ref p]/\H p=some (.lst (bs.map V.bl))/\Q (.bl (bs.all id)) H):=by
 intro pins s σ H xs us Q I r h;obtain ⟨p,bs,rfl,hp,q⟩:=h;obtain ⟨u,rfl,ru⟩:=vals1 r;cases ru;obtain ⟨z,its,n,rv,e⟩:=I.hok p _ hp;have ei:=kQ rv;subst ei;have hl:s.heap.IsList p (bs.map fun b=>Value.bool b).toArray:=⟨_,e,rfl,n,rfl⟩
 refine call_all_walk (Aj hl ?_);have hne:p≠s.heap.objs.size:=y9 (yT e);refine ⟨s.heap.objs.size,_,_,_,_,_,_,rfl,Walks.list (by first | exact I.ok.hd hc | (show X.A.in1.handled=none; exact I.ok.hd hc)) s.heap.objs.size p hne (bs.map fun b=>Value.bool b).toArray,
  ⟨⟨_,zq _ rfl,rfl,rfl⟩,⟨_,yW _ e,rfl,n,rfl⟩⟩,tL,fun h' tk hk=>?_⟩
 have sz:(bs.map fun b=>Value.bool b).toArray.size=bs.length:=by simp
 rw [sz,tM];exact ⟨.bl (bs.all id),H,I.kept (t':=tk) fun b o eb=>hk b o (by simp; exact y9 (yT eb)) (yW _ eb),rfl,q⟩
end
end L2

namespace L2
open PySem PySem.Spec PyProof.Rows
section
variable {X:Cx}{pins:List (Addr × Obj)}{σ:St}{H:Hp}{s:Shared}{A:Around}{E:Value->Shared->Prop}{Q:Value->Shared->Prop}{b:Bool}
theorem tO {x:V}{u t:Value}{tp:Addr}{its:List Value}{o:Obj}{n:Nat} (I:Inv X pins σ H s) (rx:RelV x u) (ty:TyOf X.K H x t) (ho:s.heap.get? tp=some o) (hoc:o.cls=.type "tuple") (hod:o.data=.seq its.toArray n)
  (e:PySem.W.kitAny X.K t its=some b) (h:∀ tk,Q (.bool b) { s with toks:=tk }) :
  wpAny (model X.prog X.w) A (call (.builtin "isinstance") [u,.ref tp]) Q E s:=by
 obtain ⟨c0,d0,t0,l0⟩:=o
 replace hoc:c0=.type "tuple" := hoc
 replace hod:t0=.seq its.toArray n:=hod
 subst hoc hod;cases ty with
 | non=>cases (show u=Value.none from rx); exact Ac PySem.W.kitx_none I.kIn True.intro ho e (fun z=>nomatch z) h
 | bl y=>cases (show u=Value.bool y from rx); exact Ac PySem.W.kitx_bool I.kIn True.intro ho e (fun z=>nomatch z) h
 | int i=>obtain ⟨t,q⟩:=(show ∃ t,u=Value.int i t from rx); cases q; exact Ac PySem.W.kitx_int I.kIn True.intro ho e (fun z=>nomatch z) h
 | str y=>obtain ⟨t,q⟩:=(show ∃ t,u=Value.str y t from rx); cases q; exact Ac PySem.W.kitx_str I.kIn True.intro ho e (fun z=>nomatch z) h
 | flt y=>obtain ⟨t,q⟩:=(show ∃ t,u=Value.float y t from rx); cases q; exact Ac PySem.W.kitx_float I.kIn True.intro ho e (fun z=>nomatch z) h
 | @lst a xs ea =>
  cases (show u=Value.ref a from rx);obtain ⟨_,_,n,_,h1⟩:=(show ObjOk X.prog X.w H s.heap a (.lst xs) from I.hok a _ ea);exact Ac PySem.W.kitx_list I.kIn ⟨_,h1,rfl⟩ ho e (fun z=>nomatch z) h
 | @frz a ob xs ea =>
  cases (show u=Value.ref a from rx);obtain ⟨_,_,_,n,_,h1⟩:=(show ObjOk X.prog X.w H s.heap a (.frz ob (.lst xs)) from I.hok a _ ea);exact Ac PySem.W.kitx_list I.kIn ⟨_,h1,rfl⟩ ho e (fun z=>nomatch z) h
 | @tup a xs ea =>
  cases (show u=Value.ref a from rx);obtain ⟨_,_,_,p⟩:=(show ObjOk X.prog X.w H s.heap a (.tup xs) from I.hok a _ ea);obtain ⟨o,h1,h2,_⟩:=p;exact Ac PySem.W.kitx_tuple I.kIn ⟨o,h1,h2⟩ ho e (fun z=>nomatch z) h
 | @dK a kvs ea =>
  cases (show u=Value.ref a from rx);obtain ⟨_,_,vs,_,p⟩:=(show ObjOk X.prog X.w H s.heap a (.dK kvs) from I.hok a _ ea);obtain ⟨o,es,ep,h1,h2,_⟩:=p;exact Ac PySem.W.kitx_dict I.kIn ⟨o,h1,h2.1⟩ ho e (fun z=>nomatch z) h
 | @dT a kvs ea =>
  cases (show u=Value.ref a from rx);obtain ⟨_,_,xs,_,o,es,ep,h1,h2,_⟩:=(show ObjOk X.prog X.w H s.heap a (.dT kvs) from I.hok a _ ea);exact Ac PySem.W.kitx_dict I.kIn ⟨o,h1,h2.1⟩ ho e (fun z=>nomatch z) h
 | @ins a C dx fs ea cl ha hn htk hm =>
  cases (show u=Value.ref a from rx);obtain ⟨mA,O,_⟩:=eS I.hok ea;obtain ⟨od,J,_⟩:=O.look;exact Ac (PySem.W.kitx_own (cl.get _) cl.hd ha hn htk hm) I.kIn J ho e (fun z=>nomatch z) h
end
def rIsTs (K:PySem.W.Frag):List V->Hp->VK->Prop:=fun xs H Q=>∃ (x:V) (p:Addr) (Ts:List String) (t:Value) (b:Bool),xs=[x,.ref p]/\H p=some (.tup (Ts.map V.ty))/\TyOf K H x t/\PySem.W.kitAny K t (Ts.map Value.type)=some b/\Q (.bl b) H
theorem kR:∀ {Ts:List String}{us:List Value},Vals (Ts.map V.ty) us->us=Ts.map Value.type
 | [],_,.nil=>rfl
 | T :: Ts,_,.cons r t=>by rw [zG,kR t]; cases r; rfl
theorem tP {X:Cx}:CallR X (.builtin "isinstance") (rIsTs X.K):=by
 intro pins s σ H xs us Q I r h;obtain ⟨x,p,Ts,t,b,rfl,hp,ty,e,q⟩:=h;obtain ⟨u,v,rfl,ru,rv⟩:=vals2 r;cases rv;obtain ⟨_,its,rt,o,ho,hoc,n,hod⟩:=I.hok p _ hp;have:=kR rt;subst this;exact tO I ru ty ho hoc hod e fun tk=>⟨.bl b,H,I.tok _,rfl,q⟩
example (K:PySem.W.Frag):PySem.W.kitAny K (.type "list") [.type "list",.type "tuple"]=some true:=rfl
example (K:PySem.W.Frag):PySem.W.kitAny K (.type "tuple") [.type "list",.type "tuple"]=some true:=rfl
example (K:PySem.W.Frag):PySem.W.kitAny K (.type "int") [.type "list",.type "tuple"]=some false:=rfl
end L2

namespace L2
open PySem PySem.Spec PyProof.Rows
variable{P:Program}{w:World}{K:PySem.W.Frag}{mg:Str->Option Value}{base:Heap}{CX:CXT}{j k:Nat}{C b:Addr}{ps:List Str}{sp:Sp}{pl:Sem Bool}{c A B:Prop}{a:Expr}{trs:List (TE × TE)}{H H':Hp}
structure MethOk (P:Program) (w:World) (K:PySem.W.Frag) (mg:Str->Option Value) (base:Heap) (CX:CXT) (k:Nat) (C:Addr) (m:Str) (ps:List Str) (sp:Sp):Prop where
 cl:Cls K C
 ex:∃ (f:Addr) (fd:FuncData),FnOk P w K mg base CX k f fd ps sp/\Binds K fd ps []/\Meth K C m f
theorem MethOk.mono{j:Nat}{m:Str} (D:MethOk P w K mg base CX j C m ps sp) (h:j<=k):MethOk P w K mg base CX k C m ps sp:=by
 obtain ⟨f,fd,F,b⟩:=D.ex;exact ⟨D.cl,f,fd,F.mono h,b⟩
structure MakeOk (P:Program) (w:World) (K:PySem.W.Frag) (mg:Str->Option Value) (base:Heap) (CX:CXT) (k:Nat) (C:Addr) (x:Str) (ps:List Str) (sp:Sp):Prop where
 ex:∃ (f:Addr) (fd:FuncData),FnOk P w K mg base CX k f fd ps sp/\Binds K fd ps []/\Mk K C f/\mg x=some (.ref C)
theorem MakeOk.mono{j:Nat}{x:Str} (D:MakeOk P w K mg base CX j C x ps sp) (h:j<=k):MakeOk P w K mg base CX k C x ps sp:=by
 obtain ⟨f,fd,F,b⟩:=D.ex;exact ⟨f,fd,F.mono h,b⟩
section
variable {X:Cx}{CX:CXT}{k:Nat}{C:Addr}{ps:List Str}{sp:Sp}{E:XK}{x m:Str}{p pos apos:Pos}{e o:Expr}{es:List Expr}{ta:TE}{t:TA}
theorem aW {pl:Sem Bool} (he:Pr (PE X o ta)) (D:MethOk X.prog X.w X.K X.mg X.base CX k C m ps sp) (hr:Room k X.A) (hx:Passes CX X E) (ha:Pr (PA X (e :: es) t))
  (hst:starEach (e :: es) X.env=(false,eval e X.env) :: starEach es X.env:=by rfl) (hpl:(backTo pos (starEach es X.env)).any (·.1)=false:=by rfl)
  (ht:eval (.Call (.Attribute o m apos) (e :: es) [] pos) X.env=(do
   let ov <- eval o X.env
   standAt apos.atName
   let (f,first) <- holding [ov] (getMethod ov m pl)
   callWith pos f first (backTo pos (starEach (e :: es) X.env)) (backToKw pos (keywordEach [] X.env))):=by rfl) :
  Pr (PE X (.Call (.Attribute o m apos) (e :: es) [] pos) (tMeth C m sp [] E ta t)):=by
 obtain ⟨f,fd,F,b,hm⟩:=D.ex;exact ⟨qz he.h D.cl hm F hr b .nil hx ha.h hst hpl ht⟩
theorem eF {pl:Sem Bool} (he:Pr (PE X o ta)) (D:MethOk X.prog X.w X.K X.mg X.base CX k C m ps sp) (hr:Room k X.A) (hx:Passes CX X E)
  (ht:eval (.Call (.Attribute o m apos) [] [] pos) X.env=(do
   let ov <- eval o X.env
   standAt apos.atName
   let (f,first) <- holding [ov] (getMethod ov m pl)
   callWith pos f first (backTo pos (starEach [] X.env)) (backToKw pos (keywordEach [] X.env))):=by rfl) :
  Pr (PE X (.Call (.Attribute o m apos) [] [] pos) (tMeth C m sp [] E ta tNil)):=by
 obtain ⟨f,fd,F,b,hm⟩:=D.ex;exact ⟨qA he.h D.cl hm F hr b .nil hx ht⟩
theorem fb (D:MakeOk X.prog X.w X.K X.mg X.base CX k C x ps sp) (hr:Room (k + 1) X.A) (hg:Gl X x) (hx:Passes CX X E)
  (ha:Pr (PA X (e :: es) t)) (hdb:(x == ("__debug__" : Str))=false:=by decide) (he:starEach (e :: es) X.env=(false,eval e X.env) :: starEach es X.env:=by rfl) (hpl:(backTo pos (starEach es X.env)).any (·.1)=false:=by rfl) :
  Pr (PE X (.Call (.Name x p) (e :: es) [] pos) (tMake C sp [] E t)):=by
 obtain ⟨f,fd,F,b,M,hm⟩:=D.ex;exact ⟨qB M F hr hg hm b .nil hx ha.h hdb he hpl⟩
end
section
variable {X:Cx}{sc:Scope}{own:List Str}{fr:List Nat}{N':List Str}{tg elt iter:Expr}{ifs:List Expr}{g:TG}{tt:TT}{te:TE}{wi:TI}{pos:Pos}
theorem bY:Pr (PIf X [] tYes):=⟨sG⟩
theorem gq {c:Expr}{t:TT} (h:Pr (PT X c t)):Pr (PIf X [c] t):=⟨sH h.h⟩
theorem cq (hc:X.calm=true) (cs:CompOk sc X.env.scope own X.N fr N') (hi:Pr (PI X tg iter wi)) (hg:∀ cl C s H fp,Pr (PG (cxC X sc cl N' C s H fp) tg g)) (hif:∀ cl C s H fp,Pr (PIf (cxC X sc cl N' C s H fp) ifs tt))
  (he:∀ cl C s H fp,Pr (PE (cxC X sc cl N' C s H fp) elt te)) (hs:∀ x,foldedSetIterable iter X.env x=pure x:=by intro _; rfl):Pr (PE X (.ListComp elt [⟨tg,iter,ifs,0⟩] sc pos) (tComp own.length fr wi g tt te)) :=
 ⟨sJ hc cs hi.h (fun a b c d e=>(hg a b c d e).h) (fun a b c d e=>(hif a b c d e).h) (fun a b c d e=>(he a b c d e).h) hs⟩
theorem eI {i:Nat}{y:Str}{py spos:Pos} (hN:X.N.Nodup) (hy:X.N[i]?=some y) (hx:Loc X.env.scope y) (hc:X.calm=true) (cs:CompOk sc X.env.scope own X.N fr N') (hi:Pr (PI X tg iter wi))
  (hg:∀ cl C s H fp,Pr (PG (cxC X sc cl N' C s H fp) tg g)) (hif:∀ cl C s H fp,Pr (PIf (cxC X sc cl N' C s H fp) ifs tt)) (he:∀ cl C s H fp,Pr (PE (cxC X sc cl N' C s H fp) elt te))
  (hsw:swapsWith (.ListComp elt [⟨tg,iter,ifs,0⟩] sc pos) (some (.Name y py)) spos.line X.env=pure true) (hfn:X.fn y=true\/X.env.scope.names.lookup y=some .local:=by first | exact .inl rfl | exact .inr rfl | assumption) (hs:∀ x,foldedSetIterable iter X.env x=pure x:=by intro _; rfl) :
  Pr (PS X (.Assign [.Name y py] (.ListComp elt [⟨tg,iter,ifs,0⟩] sc pos) spos) (tSetC i own.length fr wi g tt te)) :=
 ⟨sL hN hy hx hc cs hi.h (fun a b c d e=>(hg a b c d e).h) (fun a b c d e=>(hif a b c d e).h) (fun a b c d e=>(he a b c d e).h) hsw hfn hs⟩
theorem dU (k:SK) {elts:List Expr}{kk:Nat}{tpos:Pos}{ta:TA}{p pos:Pos} (hg:Gl X "enumerate") (hm:X.mg "enumerate" = none) (ha:Pr (PA X [a] ta)) (hs:starEach [a] X.env=[(false,eval a X.env)]:=by rfl) :
  Pr (PI X (.Tuple elts kk tpos) (.Call (.Name "enumerate" p) [a] [] pos) (iEnum X.K k ta)):=⟨sS k hg hm ha.h hs⟩
theorem kS (k1 k2:SK) {b:Expr}{ta:TA}{p1 p2 p3 p4:Pos} (hc:X.calm=true) (hgl:Gl X "list") (hml:X.mg "list" = none) (hgz:Gl X "zip") (hmz:X.mg "zip" = none) (ha:Pr (PA X [a,b] ta))
  (hs:starEach [a,b] X.env=[(false,eval a X.env),(false,eval b X.env)]:=by rfl) (hs2:starEach [b] X.env=[(false,eval b X.env)]:=by rfl)
  (hsz:starEach [.Call (.Name "zip" p2) [a,b] [] p3] X.env=[(false,eval (.Call (.Name "zip" p2) [a,b] [] p3) X.env)]:=by rfl) :
  Pr (PE X (.Call (.Name "list" p1) [.Call (.Name "zip" p2) [a,b] [] p3] [] p4) (tLZ X.K k1 k2 ta)):=⟨tI k1 k2 hc hgl hml hgz hmz ha.h hs hs2 hsz⟩
theorem tQ:Pr (PPs X pos [] [] []):=⟨rK⟩
theorem gu {k v:Expr}{ks:List (Option Expr)}{vs:List Expr}{tk tv:TE} (hk:Pr (PE X k tk)) (hv:Pr (PE X v tv)) (hr:Pr (PPs X pos ks vs trs)):Pr (PPs X pos (some k :: ks) (v :: vs) ((tk,tv) :: trs)):=⟨rL hk.h hv.h hr.h⟩
theorem tR {keys:List (Option Expr)}{values:List Expr} (h:Pr (PPs X pos keys values trs)) (hall:keys.all (·.isSome)=true) (hl:keys.length=values.length) (h0:keys≠[])
  (h15:keys.length<=15):Pr (PE X (.Dict keys values pos) (tDisp trs)):=⟨rM h.h hall hl h0 h15⟩
theorem kT:Pr (PE X (.Dict [] [] pos) tDNewK):=⟨rH⟩
theorem tS {o e f:Expr}{td ty tx:TE}{apos cpos:Pos} (hu:X.A.units + 1 < cLine) (ho:Pr (PE X o td)) (he:Pr (PE X e ty)) (hf:Pr (PE X f tx)) (m:M2 X o "get" apos e f cpos):Pr (PE X (.Call (.Attribute o "get" apos) [e,f] [] cpos) (tDGet2 td ty tx)):=⟨rP hu ho.h he.h hf.h m⟩
theorem fc {st:Stmt}:Pr (PS X st tNever):=⟨pw⟩
theorem compOk {sc outer:Scope}{own N:List Str}{fr:List Nat}{N':List Str} (h1:sc.kind=.function) (h2:∀ y∈sc.names,y.2≠.cell) (h3:∀ y∈sc.names,y.2=.local->sc.names.lookup y.1=some .local)
  (h4:∀ y∈sc.names,y.2=.free->outer.names.lookup y.1=some .cell\/outer.names.lookup y.1=some .free) (h5:N'.Nodup) (h6:N'.map some=own.map some++fr.map fun j=>N[j]?)
  (h7:∀ x∈fr.filterMap (fun j=>N[j]?),sc.names.lookup x=some .free/\(outer.names.lookup x=some .cell\/outer.names.lookup x=some .free)):CompOk sc outer own N fr N' :=
 ⟨h1,h2,h3,h4,h5,h6,fun j hj x hx=>h7 x (List.mem_filterMap.mpr ⟨j,hj,hx⟩)⟩
end
def rIsT2 (K:PySem.W.Frag):List V->Hp->VK->Prop:=fun xs H Q=>∃ (x:V) (p:Addr) (T1 T2:String) (t:Value) (b:Bool),xs=[x,.ref p]/\H p=some (.tup [.ty T1,.ty T2])/\TyOf K H x t/\PySem.W.kitAny K t [.type T1,.type T2]=some b/\Q (.bl b) H
theorem tT {X:Cx}:CallR X (.builtin "isinstance") (rIsT2 X.K):=fun pins s σ H xs us Q I r h=>by
 obtain ⟨x,p,T1,T2,t,b,e,hp,ty,k,q⟩:=h;exact tP pins s σ H xs us Q I r ⟨x,p,[T1,T2],t,b,e,hp,ty,k,q⟩
theorem iteD [Decidable c] (hc:c) (h:A):if decide c=true then A else B:=by rw [yN (y8 hc)]; exact h
theorem iteNn [Decidable c] (hc:c) (h:B):if (!decide c)=true then A else B:=by rw [yM (by simp [hc])]; exact h
def Tu (H H':Hp):Prop:=∀ b xs,H b=some (.tup xs)->H' b=some (.tup xs)
theorem Tu.same (c:Ch [] H H'):Tu H H':=fun b xs h=>c b _ h (by simp)
theorem Tu.ch{b:Addr}{o:HO} (c:Ch [b] H H') (hb:H b=some o) (ho:∀ xs,o≠.tup xs):Tu H H':=fun d xs h=>c d _ h (by
 intro z;have e:d=b:=by simpa using z
 subst e;rw [hb] at h;exact ho xs (zp h))
theorem Tu.lst{b:Addr}{ys:List V} (c:Ch [b] H H') (hb:H b=some (.lst ys)):Tu H H':=Tu.ch c hb (fun xs z=>by cases z)
theorem Tu.new{p:Addr} (o:HO) (h:H p=none):Tu H (upd H p o):=Tu.same (Ch.new h o)
end L2

namespace L2
open PySem PySem.Spec PyProof.Rows
section
variable {X:Cx}{a b o e value:Expr}{es:List Expr}{f:Str}{ta tb te:TE}{pos:Pos}{tg l:Expr}
theorem dr (K:PySem.W.Frag) (hK:X.K=K):IxR X (aIxL K):=hK ▸ aC
theorem cV (K:PySem.W.Frag) (hK:X.K=K):IxR X (aIxT K):=hK ▸ aH
theorem kU (K:PySem.W.Frag) (hK:X.K=K) (he:Pr (PE X e ta)) (hb:attributeBase e f X.env (eval e X.env)=eval e X.env):Pr (PE X (.Attribute e f pos) (tFld K ta f)):=hK ▸ ⟨jY he.h hb⟩
theorem iB (K:PySem.W.Frag) (n:Nat) (hK:X.K=K) {k:Nat}{t:TGs} (hc:X.calm=true) (h:Pr (PGs X es t)) (hn:(assignEach es X.env).length=n:=by rfl) (hst:(assignEach es X.env).findIdx? (·.1)=none:=by rfl) :
  Pr (PG X (.Tuple es k pos) (gTup K n t)):=hK ▸ ⟨jK hc h.h hn hst⟩
end
end L2

namespace L2
open PySem PySem.Spec PyProof.Rows PySem.SeqAt
variable{A:Around}{s:Shared}{xs ys:List V}
def Sca (x:V):Prop:=(∃ i,x=.int i)\/∃ t,x=.str t
structure ScaL (xs:List V):Prop where
 h:∀ z∈xs,Sca z
theorem tU {α:Type} [BEq α] [LawfulBEq α] [DecidableEq α] (a b:α):(a == b)=decide (a=b):=by
 by_cases h:a=b
 ·subst h; simp
 ·rw [zv h]; exact Af.mpr h
theorem tV{x y:V}{u v:Value} (hx:Sca x) (hy:Sca y) (ru:RelV x u) (rv:RelV y v):EqAt A s u v (decide (x=y)):=by
 rcases hx with ⟨i,rfl⟩ | ⟨i,rfl⟩ <;> rcases hy with ⟨j,rfl⟩ | ⟨j,rfl⟩ <;> obtain ⟨t,rfl⟩:=ru <;> obtain ⟨t',rfl⟩:=rv
 ·have:=EqAt.int_int (A:=A) (s:=s) i t j t'
  rw [tU] at this
  rwa [show decide (V.int i=V.int j)=decide (i=j) from by by_cases h:i=j <;> simp [h]]
 ·rw [show decide (V.int i=V.str j)=false from by simp]
  exact EqAt.int_str i t j t'
 ·rw [show decide (V.str i=V.int j)=false from by simp]
  exact EqAt.str_int i t j t'
 ·have:=EqAt.str_str (A:=A) (s:=s) i t j t'
  rw [show decide (V.str i=V.str j)=(i == j) from by
   by_cases h:i=j
   ·subst h; simp
   ·rw [zv (fun z=>h (V.str.inj z))]; exact (Af.mpr h).symm]
  exact this
theorem dG:((List.range (min xs.length ys.length)).all (fun j=>decide (xs[j]?=ys[j]?)) && xs.length == ys.length)=decide (xs=ys):=by
 by_cases h:xs=ys
 ·subst h
  simp
 ·rw [zv h]
  by_cases hl:xs.length=ys.length
  ·rw [Bool.and_eq_false_iff]
   refine .inl ?_;rw [List.all_eq_false];refine Classical.byContradiction fun z=>h (A5 fun j=>?_)
   by_cases hj:j < xs.length
   ·refine Classical.byContradiction fun y=>z ⟨j,Ag.mpr (by omega),by simpa using y⟩
   ·rw [Ad (by omega),Ad (by omega)]
  ·rw [Bool.and_eq_false_iff]
   exact .inr (Af.mpr hl)
theorem fe {A:Around}{s:Shared}{us vs:List Value} (hx:ScaL xs) (hy:ScaL ys) (ru:Vals xs us) (rv:Vals ys vs) (j:Nat) (h1:j < us.toArray.size) (h2:j < vs.toArray.size) :
  EqAt A s us.toArray[j] vs.toArray[j] (decide (xs[j]?=ys[j]?)):=by
 have l1:=ru.length;have l2:=rv.length;have h1':j < us.length:=by simpa using h1
 have h2':j < vs.length:=by simpa using h2
 have gx:xs[j]?=some (xs[j]'(by omega)):=yO (by omega)
 have gy:ys[j]?=some (ys[j]'(by omega)):=yO (by omega)
 obtain ⟨w1,hw1,r1⟩:=ru.get gx;obtain ⟨w2,hw2,r2⟩:=rv.get gy;have k1:us.toArray[j]=w1:=by
  have:=yO h1';rw [hw1] at this
  simpa using (zp this).symm
 have k2:vs.toArray[j]=w2:=by
  have:=yO h2';rw [hw2] at this
  simpa using (zp this).symm
 rw [k1,k2,gx,gy];have e:decide (some (xs[j]'(by omega))=some (ys[j]'(by omega)))=decide (xs[j]'(by omega)=ys[j]'(by omega)):=by
  by_cases h:(xs[j]'(by omega))=(ys[j]'(by omega)) <;> simp [h]
 rw [e];exact tV (hx.h _ (A6 _)) (hy.h _ (A6 _)) r1 r2
section
variable {X:Cx}
def rEqT:R2:=fun x y H Q=>∃ (a b:Addr) (xs ys:List V),x=.ref a/\y=.ref b/\H a=some (.tup xs)/\H b=some (.tup ys)/\ScaL xs/\ScaL ys/\Q (.bl (decide (xs=ys))) H
def rNeT:R2:=fun x y H Q=>∃ (a b:Addr) (xs ys:List V),x=.ref a/\y=.ref b/\H a=some (.tup xs)/\H b=some (.tup ys)/\ScaL xs/\ScaL ys/\Q (.bl (!decide (xs=ys))) H
theorem cu (hu:X.A.units + 64 < cLine):OpR X (compareOp .Eq) rEqT:=by
 intro pins s σ H x y v u Q I rx ry h;obtain ⟨a,b,xs,ys,rfl,rfl,ha,hb,hx,hy,q⟩:=h;cases rx;cases ry;obtain ⟨z,its,rv,t1⟩:=I.hok a _ ha;obtain ⟨z2,its2,rv2,t2⟩:=I.hok b _ hb;have key:=RcAt.tuples (A:=X.A) (s:=s) t1 t2 (by omega) (fe hx hy rv rv2)
 have e:((List.range (min its.toArray.size its2.toArray.size)).all (fun j=>decide (xs[j]?=ys[j]?)) && its.toArray.size == its2.toArray.size)=decide (xs=ys):=by
  rw [<- dG,zd,zd,<- rv.length,<- rv2.length]
 rw [e] at key;exact key X.prog X.w X.xe _ ⟨.bl _,H,I,rfl,q⟩
theorem tW (hu:X.A.units + 64 < cLine):OpR X (compareOp .NotEq) rNeT:=by
 intro pins s σ H x y v u Q I rx ry h;obtain ⟨a,b,xs,ys,rfl,rfl,ha,hb,hx,hy,q⟩:=h;cases rx;cases ry;obtain ⟨z,its,rv,t1⟩:=I.hok a _ ha;obtain ⟨z2,its2,rv2,t2⟩:=I.hok b _ hb;have key:=RcNeAt.tuples (A:=X.A) (s:=s) t1 t2 (by omega) (fe hx hy rv rv2)
 have e:((List.range (min its.toArray.size its2.toArray.size)).all (fun j=>decide (xs[j]?=ys[j]?)) && its.toArray.size == its2.toArray.size)=decide (xs=ys):=by
  rw [<- dG,zd,zd,<- rv.length,<- rv2.length]
 rw [e] at key;exact key X.prog X.w X.xe _ ⟨.bl _,H,I,rfl,q⟩
def rEqS:R2:=fun x y H Q=>∃ (a b:Addr) (xs ys:List V),x=.ref a/\y=.ref b/\H a=some (.lst xs)/\H b=some (.lst ys)/\ScaL xs/\ScaL ys/\Q (.bl (decide (xs=ys))) H
def rNeS:R2:=fun x y H Q=>∃ (a b:Addr) (xs ys:List V),x=.ref a/\y=.ref b/\H a=some (.lst xs)/\H b=some (.lst ys)/\ScaL xs/\ScaL ys/\Q (.bl (!decide (xs=ys))) H
theorem tX (hu:X.A.units + 64 < cLine):OpR X (compareOp .Eq) rEqS:=by
 intro pins s σ H x y v u Q I rx ry h;obtain ⟨a,b,xs,ys,rfl,rfl,ha,hb,hx,hy,q⟩:=h;cases rx;cases ry;obtain ⟨z,its,n,rv,e⟩:=I.hok a _ ha;obtain ⟨z2,its2,n2,rv2,e2⟩:=I.hok b _ hb;have i1:s.heap.IsList a its.toArray:=⟨_,e,rfl,n,rfl⟩;have i2:s.heap.IsList b its2.toArray:=⟨_,e2,rfl,n2,rfl⟩
 by_cases hl:xs.length=ys.length
 ·have key:=RcAt.lists (A:=X.A) (s:=s) i1 i2 (by simp [<- rv.length,<- rv2.length,hl]) (by omega) (fe hx hy rv rv2)
  have ea:((List.range its.toArray.size).all (fun j=>decide (xs[j]?=ys[j]?)))=decide (xs=ys):=by
   rw [<- dG,zd,<- rv.length,<- hl,Nat.min_self]; simp
  rw [ea] at key;exact key X.prog X.w X.xe _ ⟨.bl _,H,I,rfl,q⟩
 ·have key:=RcAt.lists_lengths (A:=X.A) (s:=s) i1 i2 (by simp [<- rv.length,<- rv2.length,hl]) (by omega)
  have ea:decide (xs=ys)=false:=zv fun z=>hl (by rw [z])
  rw [ea] at q;exact key X.prog X.w X.xe _ ⟨.bl _,H,I,rfl,q⟩
theorem kW (hu:X.A.units + 64 < cLine):OpR X (compareOp .NotEq) rNeS:=by
 intro pins s σ H x y v u Q I rx ry h;obtain ⟨a,b,xs,ys,rfl,rfl,ha,hb,hx,hy,q⟩:=h;cases rx;cases ry;obtain ⟨z,its,n,rv,e⟩:=I.hok a _ ha;obtain ⟨z2,its2,n2,rv2,e2⟩:=I.hok b _ hb;have i1:s.heap.IsList a its.toArray:=⟨_,e,rfl,n,rfl⟩;have i2:s.heap.IsList b its2.toArray:=⟨_,e2,rfl,n2,rfl⟩
 by_cases hl:xs.length=ys.length
 ·have key:=RcNeAt.lists (A:=X.A) (s:=s) i1 i2 (by simp [<- rv.length,<- rv2.length,hl]) (by omega) (fe hx hy rv rv2)
  have ea:((List.range its.toArray.size).all (fun j=>decide (xs[j]?=ys[j]?)))=decide (xs=ys):=by
   rw [<- dG,zd,<- rv.length,<- hl,Nat.min_self]; simp
  rw [ea] at key;exact key X.prog X.w X.xe _ ⟨.bl _,H,I,rfl,q⟩
 ·have key:=RcNeAt.lists_lengths (A:=X.A) (s:=s) i1 i2 (by simp [<- rv.length,<- rv2.length,hl]) (by omega)
  have ea:decide (xs=ys)=false:=zv fun z=>hl (by rw [z])
  rw [ea] at q;exact key X.prog X.w X.xe _ ⟨.bl _,H,I,rfl,q⟩
def rInN:R2:=fun x y H Q=>∃ (b:Addr) (ys:List V),x=.non/\y=.ref b/\H b=some (.lst ys)/\(∀ z∈ys,∃ p,z=.ref p/\((∃ zs,H p=some (.lst zs))\/∃ zs,H p=some (.tup zs)))/\Q (.bl false) H
theorem tY (hu:X.A.units + 64 < cLine):OpR X (compareOp .In) rInN:=by
 intro pins s σ H x y v u Q I rx ry h;obtain ⟨b,ys,rfl,rfl,hb,hz,q⟩:=h;cases rx;cases ry;obtain ⟨z,its,n,rv,e⟩:=I.hok b _ hb;have i1:s.heap.IsList b its.toArray:=⟨_,e,rfl,n,rfl⟩;refine in_listAt (fun _=>false) i1 (fun y hy=>?_) ⟨.bl false,H,I,by simp [RelV],q⟩
 obtain ⟨j,hj⟩:=Av (by simpa using hy:y∈its)
 have hjl:=(yR.mp hj).1;have gx:ys[j]?=some (ys[j]'(by have:=rv.length; omega)):=yO (by have:=rv.length; omega)
 obtain ⟨w1,hw1,r1⟩:=rv.get gx;rw [hj] at hw1;cases hw1;obtain ⟨p,ep,hp⟩:=hz _ (A6 _);rw [ep] at r1;cases r1;rcases hp with ⟨zs,hp⟩ | ⟨zs,hp⟩
 ·obtain ⟨_,as,m,ra,ea⟩:=I.hok p _ hp
  exact EqAt.list_none ⟨_,ea,rfl,m,rfl⟩ (by show X.A.units + 1 < cLine; omega)
 ·obtain ⟨_,as,ra,ta⟩:=I.hok p _ hp
  exact EqAt.tuple_none ta (by show X.A.units + 1 < cLine; omega)
end
end L2


namespace L2
open PySem PySem.W PyProof.Rows PySem.SeqAt
theorem tZ (k:Key):Sca (kV k):=by
 cases k with
 | inl i=>exact .inl ⟨i,rfl⟩
 | inr x=>exact .inr ⟨x,rfl⟩
end L2

namespace L2
open PySem PySem.W PyProof.Rows
variable{pos:Pos}{i:Expr}
section
variable {X:Cx}{o e f:Expr}{apos cpos:Pos}{td ty tx:TE}
theorem t6:Pr (PE X (.Dict [] [] pos) tDNewT):=⟨rJ⟩
theorem t7 {i:Expr} (hu:X.A.units + 1 < cLine) (hi:Pr (PE X i ty)) (ho:Pr (PE X o td)) (h1:behindInMarks .In o=false:=by rfl):Pr (PT X (.Compare i [.In] [o] pos) (tB (tDIn ty td))):=⟨jI (rD hu hi.h ho.h) h1⟩
theorem iC {i:Expr} (hu:X.A.units + 1 < cLine) (hi:Pr (PE X i ty)) (ho:Pr (PE X o td)) (h1:behindInMarks .NotIn o=false:=by rfl):Pr (PT X (.Compare i [.NotIn] [o] pos) (tB (tDNotIn ty td))):=⟨jI (rE hu hi.h ho.h) h1⟩
theorem gv {i:Expr} (hu:X.A.units + 1 < cLine) (ho:Pr (PE X o td)) (hi:Pr (PE X i ty)) (hs:NoSl i):Pr (PE X (.Subscript o i pos) (tDGet td ty)):=⟨rC hu ho.h hi.h hs⟩
theorem gw {i value:Expr}{tv:TE}{pos':Pos} (hu:X.A.units + 1 < cLine) (ho:Pr (PE X o td)) (hi:Pr (PE X i ty)) (hv:Pr (PE X value tv)) (hs:swapsWith value (some (.Subscript o i pos')) pos.line X.env=pure false) :
  Pr (PS X (.Assign [.Subscript o i pos'] value pos) (sDPut td ty tv)):=⟨rF hu ho.h hi.h hv.h hs⟩
theorem t8 (ho:Pr (PE X o td)) (hbase:attributeBase o "pop" X.env (eval o X.env)=eval o X.env:=by rfl) (hline:(apos.endLine == cpos.line)=true:=by rfl):Pr (PE X (.Call (.Attribute o "pop" apos) [] [] cpos) (tBM0 X.K "list" rPop td)) :=
 ⟨qV zM PySem.F.slot_list_pop PySem.F.type_list_pop qY ho.h hbase hline⟩
end
end L2

namespace L2
open PySem PySem.W PyProof.Rows
theorem t9 {H:Hp}{a b:Addr}{kvs:List (List Key × V)}{k:List Key}{v:V} (e:H a=some (.dT kvs)) (eb:H b=some (.tup (k.map kV))) (h:valV kvs k=some v):DGet H a (.ref b) (some v):=h ▸ DGet.t e eb
theorem ua {H:Hp}{a b:Addr}{kvs:List (List Key × V)}{k:List Key} (e:H a=some (.dT kvs)) (eb:H b=some (.tup (k.map kV))) (h:valV kvs k=none):DGet H a (.ref b) none:=h ▸ DGet.t e eb
end L2

namespace L2
open PySem PySem.Spec PyProof.Rows PySem.SeqAt
variable{H:Hp}{a:Addr}{kvs:List (Key × V)}{i:Int}{v:V}
theorem iD{kvs:List (Key × V)} (e:H a=some (.dK kvs)) (h:valV kvs (.inl i)=some v):DGet H a (.int i) (some v):=h ▸ DGet.k (k:=.inl i) e
theorem iE{kvs:List (Key × V)} (e:H a=some (.dK kvs)) (h:valV kvs (.inl i)=none):DGet H a (.int i) none:=h ▸ DGet.k (k:=.inl i) e
theorem dputI (e:H a=some (.dK kvs)) (hl:kvs.length < sizeLine):DPut H a (.int i) v (upd H a (.dK (putK kvs (.inl i) v))):=DPut.k (k:=.inl i) e hl
end L2

namespace L2
open PySem
variable{sc:Scope}{N:List Str}{x:Str}{X:Cx}{pos:Pos}
structure AF (sc:Scope) (N:List Str):Prop where
 h:∀ x∈N,(sc.names.lookup x=some .local\/sc.names.lookup x=some .cell)/\(x == ("__debug__" : Str))=false/\(x == ("__classdict__" : Str))=false
structure AV (sc:Scope) (N:List Str):Prop where
 h:∀ x∈N,(sc.names.lookup x=some .local\/sc.names.lookup x=some .cell\/sc.names.lookup x=some .free)/\(x == ("__debug__" : Str))=false/\(x == ("__classdict__" : Str))=false
structure AK (sc:Scope) (N:List Str):Prop where
 h:∀ x∈N,sc.names.lookup x=some .local
structure AG (sc:Scope) (N:List Str):Prop where
 h:∀ x∈N,sc.names.lookup x=some .globalImplicit
theorem AF.l{N:List Str} (A:AF sc N) (i:Nat) {x:Str} (e:N[i]?=some x):sc.names.lookup x=some .local\/sc.names.lookup x=some .cell:=(A.h x (zc e)).1
theorem AK.k{N:List Str} (A:AK sc N) (i:Nat) {x:Str} (e:N[i]?=some x):sc.names.lookup x=some .local:=A.h x (zc e)
theorem AG.g{N:List Str} (A:AG sc N) (i:Nat) (e:N[i]?=some x):sc.names.lookup x=some .globalImplicit:=A.h x (zc e)
theorem qv (A:AF X.env.scope X.N) (i:Nat) (e:X.N[i]?=some x):Pr (PE X (.Name x pos) (tVar i)) :=
 have a:=A.h x (zc e)
 kJ e (a.1.elim .inl fun h=>.inr (.inl h)) a.2.1 a.2.2
theorem qw (A:AV X.env.scope X.N) (i:Nat) (e:X.N[i]?=some x):Pr (PE X (.Name x pos) (tVar i)) :=
 have a:=A.h x (zc e)
 kJ e a.1 a.2.1 a.2.2
end L2

namespace L2
open PySem PySem.Spec PyProof.Rows
variable{g:Int->Int->V}
section
variable {K:PySem.W.Frag}{i j:Int}{n:Nat}{σ:St}{H:Hp}{v:V}{Q:VK}{p C dx:Addr}{xs:List V}{f:Str}{fs:List (Str × V)}
theorem ub (h:σ[n]?=some (some v)) (q:Q v H):TVar n σ H Q:=⟨v,h,q⟩
theorem w_i0 (q:Q (g i j) H):RI0 g (.int i) (.int j) H Q:=⟨i,j,rfl,rfl,q⟩
theorem w_i {D:Int->Int->Prop} (h:D i j) (q:Q (g i j) H):RI D g (.int i) (.int j) H Q:=⟨i,j,rfl,rfl,h,q⟩
theorem w_tb {k:Bool}{Q:Bool->Hp->Prop} (q:Q k H):TB (.bl k) H Q:=⟨k,rfl,q⟩
theorem uc (h:SqL K H p xs) (a:Atx xs i fun v=>Q v H):AIL K (.ref p) (.int i) H Q:=⟨p,xs,i,rfl,rfl,h,a⟩
theorem ud (h:SqT K H p xs) (a:Atx xs i fun v=>Q v H):AIT K (.ref p) (.int i) H Q:=⟨p,xs,i,rfl,rfl,h,a⟩
theorem ue (h:SqL K H p xs\/SqT K H p xs) (q:Q (.int xs.length) H):RLen K [.ref p] H Q:=⟨p,xs,rfl,h,q⟩
theorem uf (h:H p=some (.ins C dx fs)) (c:Cls K C) (a:NoAttr K C f) (l:fs.lookup f=some v) (q:Q v H):TFd K f (.ref p) H Q:=⟨p,C,dx,fs,v,rfl,h,c,a,l,q⟩
theorem ug {Q:Hp->Prop} (h:H p=some (.lst xs)) (e:ixN xs.length i=some n) (q:Q (upd H p (.lst (xs.set n v)))):SetL (.ref p) (.int i) v H Q:=⟨p,xs,i,n,rfl,rfl,h,e,q⟩
end
end L2

namespace B17
open PySem L2
local macro_rules | `(∅) => `(by decide +kernel)
abbrev Vs (sc:Scope) (x:Str):Prop:=sc.names.lookup x=some NameKind.local\/sc.names.lookup x=some NameKind.cell\/sc.names.lookup x=some NameKind.free
abbrev Lc (sc:Scope) (x:Str):Prop:=sc.names.lookup x=some NameKind.local\/sc.names.lookup x=some NameKind.cell
abbrev Gi (sc:Scope) (x:Str):Prop:=sc.names.lookup x=some NameKind.globalImplicit
abbrev Nd (x:Str):Prop:=(x == ("__debug__" : Str))=false
abbrev Nc (x:Str):Prop:=(x == ("__classdict__" : Str))=false
theorem sz1:1<=sizeLine:=by rw [zf]; decide
theorem sz2:2<=sizeLine:=by rw [zf]; decide
theorem sz3:3<=sizeLine:=by rw [zf]; decide
theorem sz4:4<=sizeLine:=by rw [zf]; decide
theorem nlo (n:Nat):-2 ^ 62<=(n:Int):=Int.le_trans (by decide) (Int.natCast_nonneg n)
theorem nhi {n:Nat} (h:n<=12):(n:Int) < 2 ^ 62:=Int.lt_of_le_of_lt (Int.ofNat_le.mpr h) (by decide)
end B17
local macro_rules | `(∅) => `(by decide +kernel)

namespace B17
open PySem L2 PySem.Spec PyProof.Rows PySem.SeqAt
variable{a b:Int}{X:Cx}{pins:List (Addr × Obj)}{σ:L2.St}{H:Hp}{s:Shared}{A:Around}{ks ys:List V}{zss:List (List V)}
def rMin2T:List V->Hp->VK->Prop:=fun xs H Q=>∃ (p:Addr) (a b:Int),xs=[.ref p]/\H p=some (.tup [.int a,.int b])/\Q (.int (min a b)) H
def rMax2T:List V->Hp->VK->Prop:=fun xs H Q=>∃ (p:Addr) (a b:Int),xs=[.ref p]/\H p=some (.tup [.int a,.int b])/\Q (.int (max a b)) H
theorem kX{its:List Value} (r:Vals [V.int a,V.int b] its):∃ t u,its=[.int a t,.int b u]:=by
 obtain ⟨x,y,rfl,⟨t,rfl⟩,⟨u,rfl⟩⟩:=vals2 r;exact ⟨t,u,rfl⟩
section
variable {prog:Program}{w:World}{A:Around}{E:Value->Shared->Prop}{s:Shared}{l:Addr}{its:Array Value}
theorem kY {Q:Value->Shared->Prop} (hl:s.heap.IsTuple l its)
  (h:∀ s₂:Shared,s₂={ s with heap:=s.heap.push { cls:=.type "tuple_iterator",data:=.fields #[.ref l,.int 0 0] } }->(s₂.heap.IsTupleIter s.heap.objs.size l 0/\s₂.heap.IsTuple l its)->(∀ b∈[s.heap.objs.size,l],b < s₂.heap.objs.size)->l≠s.heap.objs.size ->
   (∀ h':Heap,(∀ b o,b ∉ [s.heap.objs.size]->s₂.heap.get? b=some o->h'.get? b=some o)->∀ b o,s.heap.get? b=some o->h'.get? b=some o)->Q (.ref s.heap.objs.size) s₂):wpAny (model prog w) A (pyIter (.ref l)) Q E s:=by
 have hlt:l < s.heap.objs.size:=by obtain ⟨_,e,_⟩:=id hl; exact yT e
 refine Ao hl (h _ rfl ⟨⟨_,zq _ rfl,rfl,rfl⟩,hl.push _⟩ (fun b hb=>?_) (y9 hlt) fun h' k b o e=>k b o (fun m=>?_) (yW _ e))
 ·show b < (s.heap.push _).objs.size
  rw [z8];simp only [yZ,ze,zh] at hb;rcases hb with rfl | rfl
  ·exact A1 _
  ·exact Nat.lt_succ_of_lt hlt
 ·simp only [yZ,ze,zh] at m
  exact absurd (m ▸ yT e) (zN _)
end
theorem gA{t u:Tok} (i:Nat) (v:Value) (h:(#[Value.int a t,Value.int b u]:Array Value)[i]?=some v):∃ t,v=.int ([a,b].getD i 0) t:=by
 match i with
 | 0=>exact ⟨t,by simpa using h.symm⟩
 | 1=>exact ⟨u,by simpa using h.symm⟩
 | i + 2=>simp at h
theorem uh (hc:X.calm=true):CallR X (.builtin "min") rMin2T:=by
 intro pins s σ H xs us Q I r h;obtain ⟨p,a,b,rfl,hp,q⟩:=h;obtain ⟨u,rfl,ru⟩:=vals1 r;cases ru;obtain ⟨z,its,rv,ta⟩:=I.hok p _ hp;obtain ⟨t,u,rfl⟩:=kX rv;refine call_min_walk (kY ta fun s₂ e st hfp hlI old=>?_)
 subst e;refine ⟨_,_,_,2,_,_,_,rfl,Walks.tuple (A:=X.A.in1) (I.ok.hd hc) _ p hlI #[.int a t,.int b u],st,hfp,by decide,CmpOf.ints_lt (fun i=>[a,b].getD i 0) gA,fun v h' tk hP hk=>?_⟩
 obtain ⟨t',rfl⟩:=gA _ v hP;have e:[a,b].getD (argBest (fun i j=>decide ([a,b].getD i 0 < [a,b].getD j 0)) (2 - 1)) 0=min a b:=by
  by_cases g:b < a
  ·simp [argBest,g]; omega
  ·simp [argBest,g]; omega
 exact ⟨.int _,H,I.kept (t':=tk) (old h' hk),⟨t',by rw [e]⟩,q⟩
theorem ui (hc:X.calm=true):CallR X (.builtin "max") rMax2T:=by
 intro pins s σ H xs us Q I r h;obtain ⟨p,a,b,rfl,hp,q⟩:=h;obtain ⟨u,rfl,ru⟩:=vals1 r;cases ru;obtain ⟨z,its,rv,ta⟩:=I.hok p _ hp;obtain ⟨t,u,rfl⟩:=kX rv;refine call_max_walk (kY ta fun s₂ e st hfp hlI old=>?_)
 subst e;refine ⟨_,_,_,2,_,_,_,rfl,Walks.tuple (A:=X.A.in1) (I.ok.hd hc) _ p hlI #[.int a t,.int b u],st,hfp,by decide,CmpOf.ints_gt (fun i=>[a,b].getD i 0) gA,fun v h' tk hP hk=>?_⟩
 obtain ⟨t',rfl⟩:=gA _ v hP;have e:[a,b].getD (argBest (fun i j=>decide ([a,b].getD i 0 > [a,b].getD j 0)) (2 - 1)) 0=max a b:=by
  by_cases g:a < b
  ·simp [argBest,g]; omega
  ·simp [argBest,g]; omega
 exact ⟨.int _,H,I.kept (t':=tk) (old h' hk),⟨t',by rw [e]⟩,q⟩
structure TL (H:Hp) (zss:List (List V)) (ys:List V):Prop where
 len:ys.length=zss.length
 at_:∀ (i:Nat) (zs:List V),zss[i]?=some zs->ScaL zs/\∃ p,ys[i]?=some (.ref p)/\H p=some (.tup zs)
def eqv (H:Hp) (ks:List V):Value->Bool
 | .ref p=>match H p with
  | some (.tup zs)=>decide (zs=ks)
  | _=>false
 | _=>false
theorem uj {X:Cx}{pins:List (Addr × Obj)}{σ:L2.St}{H:Hp} (I:L2.Inv X pins σ H s) {p a:Addr}{zs:List V} (hp:H p=some (.tup zs)) (ha:H a=some (.tup ks)) (hz:ScaL zs) (hk:ScaL ks) (hu:A.units < cLine):EqAt A s (.ref p) (.ref a) (decide (zs=ks)):=by
 by_cases e:p=a
 ·subst e
  rw [hp] at ha;cases ha;rw [y8 rfl];exact EqAt.same _
 ·refine EqAt.of_refs e ?_
  obtain ⟨z,its,rv,t1⟩:=I.hok p _ hp;obtain ⟨z2,its2,rv2,t2⟩:=I.hok a _ ha;have key:=RcAt.tuples (A:=A) (s:=s) t1 t2 hu (fe hz hk rv rv2);have e:((List.range (min its.toArray.size its2.toArray.size)).all (fun j=>decide (zs[j]?=ks[j]?)) && its.toArray.size == its2.toArray.size)=decide (zs=ks):=by
   rw [<- dG,zd,zd,<- rv.length,<- rv2.length]
  rw [e] at key;exact key
theorem TL.eqv{ys:List V}{its:List Value} (h:TL H zss ys) (rv:Vals ys its):its.map (eqv H ks)=zss.map (fun zs=>decide (zs=ks)):=by
 refine A5 fun j=>?_
 rw [yY,yY];cases e:zss[j]? with
 | none =>
  have l1:=List.getElem?_eq_none_iff.mp e;have l2:=h.len;have l3:=rv.length;rw [Ad (by omega)]; rfl
 | some zs =>
  obtain ⟨_,p,h1,h2⟩:=h.at_ j zs e;obtain ⟨w,hw,r⟩:=rv.get h1;cases r;rw [hw];simp [B17.eqv,h2]
theorem TL.eqs (I:L2.Inv X pins σ H s){a:Addr}{its:List Value} (h:TL H zss ys) (rv:Vals ys its) (ha:H a=some (.tup ks)) (hk:ScaL ks) (hu:A.units < cLine) :
  ∀ y,y∈its.toArray->EqAt A s y (.ref a) (B17.eqv H ks y):=fun y hy=>by
 obtain ⟨j,hj⟩:=Av (by simpa using hy:y∈its)
 have hjl:=(yR.mp hj).1;obtain ⟨zs,ez⟩:∃ zs,zss[j]?=some zs:=⟨_,yO (by have:=h.len; have:=rv.length; omega)⟩
 obtain ⟨sc,p,h1,h2⟩:=h.at_ j zs ez;obtain ⟨w,hw,r⟩:=rv.get h1;cases r;rw [hj] at hw;cases hw;have:B17.eqv H ks (.ref p)=decide (zs=ks):=by simp [B17.eqv,h2]
 rw [this];exact uj I h2 ha sc hk hu
section
variable {X:Cx}
def rCountT:V->List V->Hp->VK->Prop:=fun x vs H Q=>∃ (l a:Addr) (ks:List V) (zss:List (List V)) (ys:List V),x=.ref l/\vs=[.ref a]/\H a=some (.tup ks)/\ScaL ks/\H l=some (.lst ys)/\TL H zss ys/\Q (.int ((zss.countP fun zs=>decide (zs=ks):Nat):Int)) H
theorem uk (hu:X.A.units + 64 < cLine):MtM X "list.count" rCountT:=by
 intro pins s σ H x vs v us Q I rx rv h;obtain ⟨l,a,ks,zss,ys,rfl,rfl,ha,hk,hH,tl,q⟩:=h;cases rx;obtain ⟨u,rfl,ru⟩:=rv.one;cases ru;obtain ⟨z,its,n,r,hl,e⟩:=I.lstM hH;refine call_meets PySem.F.slot_list_count ⟨_,e,rfl⟩ PySem.F.entry_list_count (PySem.F.args_list_count_2 _ _) (list_countAt l its.toArray n _ _ (.ref a) (B17.eqv H ks)) ⟨e,tl.eqs I r ha hk (by show X.A.units + 1 < cLine; omega),?_⟩
 have:its.toArray.toList.countP (B17.eqv H ks)=zss.countP fun zs=>decide (zs=ks):=by
  have e:=za (fun l=>l.countP id) (tl.eqv (ks:=ks) r)
  simpa [A7,Function.comp_def] using e
 rw [this];exact ⟨.int _,H,I.tok _,⟨_,rfl⟩,q⟩
end
end B17

namespace L2
open PySem PySem.W PyProof.Rows PySem.Calls
structure TabOk (P:Program) (w:World) (K:PySem.W.Frag) (mg:Str->Option Value) (base:Heap) (CX:CXT) (k:Nat) (ps:List Str) (sp:Addr->Sp) (A:Addr->Prop):Prop where
 at_:∀ f,A f->∃ fd:FuncData,FnOk P w K mg base CX k f fd ps (sp f)/\Binds K fd ps []/\PySem.W.keepIn K (.ref f)=true
def tCallV (sp:Addr->Sp) (A:Addr->Prop) (E:XK) (tf:TE) (t:TA):TE:=fun σ H Q=>tf σ H fun x H1=>∃ f,x=.ref f/\A f/\t σ H1 fun vs H2=>sp f vs H2 Q E
section
variable {X:Cx}
theorem um {CX:CXT}{k:Nat}{ps:List Str}{sp:Addr->Sp}{A:Addr->Prop}{E:XK}{o i e:Expr}{es:List Expr}{p pos:Pos}{tf:TE}{t:TA} (T:TabOk X.prog X.w X.K X.mg X.base CX k ps sp A) (hr:Room k X.A) (hx:Passes CX X E) (hf:Pr (PE X (.Subscript o i p) tf)) (ha:Pr (PA X (e :: es) t))
  (ht:eval (.Call (.Subscript o i p) (e :: es) [] pos) X.env=(eval (.Subscript o i p) X.env >>= fun f=>callWith pos f [] (backTo pos (starEach (e :: es) X.env)) (backToKw pos (keywordEach [] X.env))):=by rfl)
  (he:starEach (e :: es) X.env=(false,eval e X.env) :: starEach es X.env:=by rfl) (hpl:(backTo pos (starEach es X.env)).any (·.1)=false:=by rfl) :
  Pr (PE X (.Call (.Subscript o i p) (e :: es) [] pos) (tCallV sp A E tf t)):=by
 refine ⟨fun pins s σ H Q I h=>?_⟩
 rw [ht];refine yL (thn (hf.h pins s σ H _ I h) fun u s1 ⟨x,H1,I1,rx,f,ex,af,q⟩=>?_)
 subst ex;obtain rfl:u=Value.ref f:=rx;obtain ⟨fd,F,b,kp⟩:=T.at_ f af;refine PySem.W.callWith_K (h₀:=X.base) I.ok.mod.kin kp (thn (ha.h pos pins s1 σ H1 _ I1 q) fun us s2 ⟨vs,H2,I2,r,q2⟩=>⟨I2.kIn,?_⟩) he hpl
 exact fS F hr b .nil hx I2 r (by rw [List.append_nil]; exact q2)
end
end L2

namespace L2
open PySem PySem.Spec PyProof.Rows PySem.SeqAt
section
variable {X:Cx}
def rEqE:R2:=fun x y H Q=>∃ (a b:Addr) (xs:List V),x=.ref a/\y=.ref b/\H a=some (.lst xs)/\H b=some (.lst [])/\Q (.bl xs.isEmpty) H
theorem uo (hu:X.A.units + 64 < cLine):OpR X (compareOp .Eq) rEqE:=by
 intro pins s σ H x y v u Q I rx ry h;obtain ⟨a,b,xs,rfl,rfl,ha,hb,q⟩:=h;cases xs with
 | nil=>exact tX hu pins s σ H _ _ v u Q I rx ry ⟨a,b,[],[],rfl,rfl,ha,hb,⟨fun z hz=>by cases hz⟩,⟨fun z hz=>by cases hz⟩,by simpa using q⟩
 | cons z zs =>
  cases rx;cases ry;obtain ⟨_,its,n,rv,e⟩:=I.hok a _ ha;obtain ⟨_,its2,n2,rv2,e2⟩:=I.hok b _ hb;have i1:s.heap.IsList a its.toArray:=⟨_,e,rfl,n,rfl⟩;have i2:s.heap.IsList b its2.toArray:=⟨_,e2,rfl,n2,rfl⟩;have l1:=rv.length;have l2:=rv2.length;exact RcAt.lists_lengths (A:=X.A) (s:=s) i1 i2 (by simp [<- l1,<- l2]) (by omega) X.prog X.w X.xe _ ⟨.bl _,H,I,rfl,q⟩
end
end L2

namespace L2
open PySem PySem.Spec PyProof.Rows
section
variable {o e:Expr}{es:List Expr}{to:TE}{t:TA}{name:Str}{apos cpos:Pos}{T id:String}{r:V->List V->Hp->VK->Prop}
theorem uq (K:PySem.W.Frag) (hK:X.K=K) (pa:PlainAttrs T) (slot:Slot T name id) (hty:typeOf (.builtin id)=pure (.type "method_descriptor")) (hm:MtR X id r) (ho:Pr (PE X o to)) (ha:Pr (PA X (e :: es) t)) (hbase:attributeBase o name X.env (eval o X.env)=eval o X.env:=by rfl) (hfew:((backTo cpos (starEach (e :: es) X.env)).all (fun x=>!x.1) && (backToKw cpos (keywordEach [] X.env)).all (fun x=>x.1.isSome)
   && decide ((e :: es).length + ([]:List Keyword).length + (if ([]:List Keyword).isEmpty then 0 else 1) < 30))=true:=by rfl) (hline:(apos.endLine == cpos.line)=true:=by rfl) (hs:starEach (e :: es) X.env=(false,eval e X.env) :: starEach es X.env:=by rfl) (hplain:(backTo cpos (starEach es X.env)).any (·.1)=false:=by rfl):Pr (PE X (.Call (.Attribute o name apos) (e :: es) [] cpos) (tBM K T r to t)):=hK ▸ ⟨ke pa slot hty hm ho.h ha.h hbase hfew hline hs hplain⟩
end
end L2

set_option maxHeartbeats 4000000
namespace B17
open PySem L2
variable{H H' H0 H1:Hp}{gs net al:List Gt}{K:PySem.W.Frag}{fa C gl ol dx pl CN nt gp CP:Addr}{kvs:List (Key × V)}{r:Rs}{i j n m hi N it:Nat}{g h:Gt}{fs os l ws ns:List Nat}{c c' B ff:Int}{ρ ρ':Nat->Nat}{ps:List Str}{prs:List (Nat × Str)}{W v:Nat->Bool}{why:Str}{row kept bs:List Bool}{kv:Key × V}{kd:SK}{a' b':Bool}{F:FuncData}
local macro_rules | `(tactic| omega)=>`(tactic| first
 | with_reducible assumption
 | with_reducible exact yP _
 | with_reducible exact Int.natCast_nonneg _
 | with_reducible exact Nat.min_le_left _ _
 | (with_reducible apply zF; with_reducible assumption)
 | (with_reducible apply Nat.lt_succ_of_lt; with_reducible assumption)
 | (with_reducible apply zy; (focus with_reducible assumption); (focus decide))
 | (with_reducible apply AE; (focus with_reducible assumption); (focus decide))
 | (with_reducible apply zr; (focus with_reducible assumption); (focus decide))
 | (with_reducible apply Nat.lt_of_lt_of_eq; (focus with_reducible assumption); (focus with_reducible assumption))
 | (with_reducible apply Nat.lt_of_lt_of_eq; (focus with_reducible assumption); (focus (apply Eq.symm; with_reducible assumption)))
 | (with_reducible apply zr; (focus with_reducible assumption); (focus with_reducible assumption))
 | (with_reducible apply AE; (focus with_reducible assumption); (focus with_reducible assumption))
 | (with_reducible apply zy; (focus with_reducible assumption); (focus with_reducible assumption))
 | (with_reducible apply Nat.le_antisymm; (focus (apply Nat.le_of_lt_succ; with_reducible assumption)); (focus (apply Nat.le_of_not_lt; with_reducible assumption)))
 | (with_reducible apply Int.le_of_lt; with_reducible assumption)
 | (with_reducible apply Int.lt_of_le_of_lt; (focus with_reducible assumption); (focus decide))
 | (with_reducible apply Int.le_trans; (focus with_reducible assumption); (focus decide))
 | (with_reducible apply Int.lt_trans; (focus with_reducible assumption); (focus decide))
 | omega +splitDisjunctions)
local macro_rules | `(tactic| walk_at "few")=>`(tactic| (with_reducible show (List.length (α:=Str × V) _) < 1000); first | exact (by decide:0 < 1000) | exact (by decide:1 < 1000) | exact (by decide:2 < 1000) | exact (by decide:3 < 1000) | exact (by decide:4 < 1000) | exact (by decide:5 < 1000) | exact (by decide:6 < 1000))
local macro_rules | `(tactic| walk_at "get")=>`(tactic| first
 | with_reducible assumption
 | exact ah
 | (apply aA; (focus with_reducible assumption); (focus walk_at "get"))
 | (apply aJ; (focus walk_at "ne"); (focus walk_at "get"))
 | (apply Ch.get; (focus with_reducible assumption); (focus walk_at "get"); (focus walk_at "notin")))
local macro_rules | `(tactic| walk_at "ne")=>`(tactic| first | with_reducible assumption | (apply yV; with_reducible assumption) | (apply aV; (focus with_reducible assumption); (focus with_reducible assumption); (focus (intro z; cases z))))
local macro_rules | `(tactic| walk_at "notin")=>`(tactic| first | exact ze | (simp only [yZ,ze,zh,not_or,not_false_eq_true]; first | walk_at "ne" | trivial))
local macro_rules | `(tactic| walk_at "scr")=>`(tactic| first
 | with_reducible assumption
 | (apply Scr.ch; (focus with_reducible assumption); (focus with_reducible assumption); (focus walk_at "ch"))
 | (apply Scr.same; (focus with_reducible assumption); (focus walk_at "ch")))
local macro_rules | `(tactic| walk_at "ch")=>`(tactic| first
 | with_reducible assumption
 | exact Ch.refl _ _
 | exact Ch.put
 | (apply Ch.new; with_reducible assumption)
 | (apply Ch.wk; with_reducible assumption)
 | (apply Ch.own; (focus with_reducible assumption); (focus walk_at "ch"))
 | (apply Ch.trans; (rotate_left; focus with_reducible assumption); (focus walk_at "ch"))
 | (apply Ch.trans; (rotate_left; focus (apply Ch.wk; with_reducible assumption)); (focus walk_at "ch"))
 | (apply Ch.trans; (rotate_left; focus exact Ch.put); (focus walk_at "ch"))
 | (apply Ch.trans; (rotate_left; focus (apply Ch.new; with_reducible assumption)); (focus walk_at "ch")))
local macro_rules | `(tactic| walk_at "sq")=>`(tactic| first
 | (apply Scr.sq; walk_at "scr")
 | (apply Exists.intro; walk_at "sq")
 | (refine (‹∀ H:Hp,SqT _ H _ _›) _)
 | (apply SqL.of; walk_at "get")
 | (apply SqT.of; walk_at "get")
 | (apply Or.inl; apply Scr.sq; walk_at "scr")
 | (apply Or.inl; apply SqL.of; walk_at "get")
 | (apply Or.inr; apply SqT.of; walk_at "get"))
local macro_rules | `(tactic| walk_at "arith")=>`(tactic| first
 | with_reducible exact nlo _
 | (with_reducible apply nhi; with_reducible assumption)
 | with_reducible assumption
 | decide
 | ((try dsimp only); decide)
 | omega
 | (simp only [yS,zK,AR,zk,AD,AM]; done)
 | ((try dsimp only); (simp only [zK,AR]); with_reducible first | exact sz1 | exact sz2 | exact sz3 | exact sz4)
 | ((try dsimp only); (try simp only [yS,zK,AR,zk,AD,AM,zf]); omega)
 | ((try dsimp only); (try simp only [yS,zK,AR,zk,AD,AM,zf] at *); omega))
local macro_rules | `(tactic| walk_at "cond")=>`(tactic| first
 | (refine Or.inl (And.intro ?_ ?_) <;> walk_at "arith")
 | (refine Or.inr (And.intro ?_ ?_) <;> walk_at "arith")
 | (refine And.intro ?_ (And.intro ?_ ?_) <;> walk_at "arith")
 | (refine And.intro ?_ ?_ <;> walk_at "arith"))
local macro_rules | `(tactic| walk_at "len")=>`(tactic| first
 | with_reducible assumption
 | exact len_one
 | (apply len_slice; walk_at "len")
 | (apply len_app; (focus walk_at "len"); (focus walk_at "len"))
 | exact yP _)
local macro_rules | `(tactic| walk_at "lens")=>`(tactic| first
 | (apply len_sum; (focus walk_at "len"); (focus walk_at "len"); (focus first | decide +kernel | walk_at "arith"))
 | (apply len_top; (focus walk_at "len"); (focus first | decide +kernel | walk_at "arith")))
local macro_rules | `(tactic| walk_at "side")=>`(tactic| first
 | with_reducible rfl | with_reducible assumption | walk_at "sq" | walk_at "get" | walk_at "scr" | walk_at "ch" | walk_at "ty" | exact TyOf.int _ | exact TyOf.str _ | (apply TyOf.tup; walk_at "get") | (apply TyOf.lst; walk_at "get") | exact TyOf.bl _ | exact TyOf.non | walk_at "few" | decide | walk_at "arith" | walk_at "cond" | ((try simp only [yS]); with_reducible assumption) | walk_at "lens" | (apply Or.inr; with_reducible assumption) | walk_at "user" | exact rfl | assumption)
local macro_rules | `(tactic| walk_at "ty")=>`(tactic| (refine Or.inl (And.intro rfl ?_); apply Exists.intro; walk_at "sq"))
local macro_rules | `(tactic| walk_at "user")=>`(tactic| fail)
local macro_rules | `(tactic| walk_at "rd1")=>`(tactic| first
 | refine L2.ub rfl ?_
 | refine L2.w_i0 ?_
 | (refine L2.w_i ?_ ?_; (focus (walk_at "side"; done)))
 | refine L2.w_tb ?_
 | (apply L2.uc; (focus walk_at "sq"))
 | (apply L2.ud; (focus walk_at "sq"))
 | (apply L2.ue; (focus walk_at "sq"))
 | (apply L2.uf; (focus walk_at "get"); (focus with_reducible assumption); (focus with_reducible assumption); (focus first | exact rfl | with_reducible assumption))
 | (apply L2.ug; (focus walk_at "get"); (focus with_reducible assumption))
 | apply Exists.intro
 | (refine And.intro rfl ?_)
 | (refine And.intro (show V.str _=L2.kV (Sum.inr _) from rfl) ?_)
 | (refine And.intro (show V.int _=L2.kV (Sum.inl _) from rfl) ?_)
 | (refine And.intro (L2.rW _ _) ?_)
 | (apply And.intro; (focus (walk_at "side"; done)))
 | apply Atx.head
 | (apply Atx.of; (focus first | exact rfl | with_reducible assumption | ((try simp only [yS]); with_reducible assumption)))
 | (apply Or.inl; apply Exists.intro; (refine And.intro rfl ?_))
 | (apply Or.inr; apply Exists.intro; (refine And.intro rfl ?_))
 | (apply Or.inl; apply And.intro; (focus walk_at "sq"))
 | (apply Or.inr; apply And.intro; (focus walk_at "sq"))
 | refine L2.AIL.mk ?_
 | refine L2.AIT.mk ?_
 | refine L2.RLen.mk ?_
 | refine L2.TFd.mk ?_
 | refine L2.SetL.mk ?_
 | refine L2.RI.mk ?_
 | refine L2.RI0.mk ?_
 | refine L2.TB.mk ?_
 | (intro _)
 | walk_at "fin")
local macro_rules | `(tactic| walk_at "fin")=>`(tactic| first | exact rfl | (walk_at "get"; done))
local macro_rules | `(tactic| walk_at "rd")=>`(tactic| repeat walk_at "rd1")
local macro_rules | `(tactic| walk_at "sz")=>`(tactic| first | exact szm (by assumption) (by assumption) (by decide) | (rw [zf,yS]; omega))
local macro_rules | `(tactic| walk_at "lt")=>`(tactic| first | exact ltl (by assumption) (by assumption) | omega)
section
def top (i:Nat):Stmt:=PySem.Challenge.pw_bitfloor_k27_no_paper_lies.main.body.getD i (.Pass ⟨0,0,0,0⟩)
def SqX (k:SK) (H:Hp) (a:Addr) (xs:List V):Prop:=match k with
 | .list=>H a=some (.lst xs)
 | .tuple=>H a=some (.tup xs)
section
variable {P:Program}{w:World}{K:PySem.W.Frag}{mg:Str->Option Value}{base:Heap}{f:Addr}{fd:FuncData}{k:Nat}
theorem fh:bootBuiltins "isinstance" = some (.builtin "isinstance"):=∅
theorem ur:bootBuiltins "bool" = some (.type "bool"):=∅
theorem uu:("bool" : Str) ≠ "__name__" := ∅
theorem uv:Nd "bool" := ∅
theorem fi:("isinstance" : Str) ≠ "__name__" := ∅
theorem fj:Nd "isinstance" := ∅
theorem uw:bootBuiltins "int" = some (.type "int"):=∅
theorem uz:("int" : Str) ≠ "__name__" := ∅
theorem uA:Nd "int" := ∅
theorem uB:Nd "is_whole" := ∅
theorem dt:bootBuiltins "tuple" = some (.type "tuple"):=∅
theorem du:("tuple" : Str) ≠ "__name__" := ∅
theorem dz:Nd "tuple" := ∅
theorem cX:bootBuiltins "list" = some (.type "list"):=∅
theorem cY:("list" : Str) ≠ "__name__" := ∅
theorem cZ:Nd "list" := ∅
theorem aM:("len" : Str) ≠ "__name__" := ∅
theorem aO:Nd "len" := ∅
theorem fm:Nd "is_listed" := ∅
theorem iF:Nd "ask_length" := ∅
theorem dW:Nd "is_below" := ∅
theorem uC:bootBuiltins "str" = some (.type "str"):=∅
theorem uD:("str" : Str) ≠ "__name__" := ∅
theorem uE:Nd "str" := ∅
theorem kZ:Nd "FEED_COUNTS" := ∅
theorem uF:bootBuiltins "all" = some (.builtin "all"):=∅
theorem uG:("all" : Str) ≠ "__name__" := ∅
theorem uH:Nd "all" := ∅
theorem lh:Nd "is_gate" := ∅
theorem gl6:AG (defScope (top 6)) ["isinstance", "bool", "int"]:=⟨∅⟩
theorem av6:AF (defScope (top 6)) ["thing"]:=⟨∅⟩
def spWhole:Sp:=fun vs H Q _=>∃ i:Int,vs=[.int i]/\Q (.bl true) H
theorem scWhole:FnScope ["thing"] ["thing"] (defScope (top 6)):=⟨rfl,rfl,rfl,∅,rfl,∅,∅⟩
theorem uI (F:Fun K "is_whole" "is_whole" (top 6) f fd) (z_isinstance:mg "isinstance" = none) (z_int:mg "int" = none) (z_bool:mg "bool" = none):FnOk P w K mg base CX0 (k + 1) f fd ["thing"] spWhole:=by
 have nd:=scWhole.nd;refine F.ok scWhole (fun vs H Q E h=>by obtain ⟨i,rfl,_⟩:=h; rfl) (fun cdv A outer s H vs Q E hr h=>?_)
 obtain ⟨i,rfl,q⟩:=h;refine ⟨_,(Pr.h (ai (au (bp (aF fY (gl6.g 0 rfl) z_isinstance fh (aa (qv av6 0 rfl) (aa (eD (v:=.ty "int") (gl6.g 2 rfl) z_int uw rfl uz uA) ab)) fi fj) (bc (sy (aF fY (gl6.g 0 rfl) z_isinstance fh (aa (qv av6 0 rfl) (aa (eD (v:=.ty "bool") (gl6.g 1 rfl) z_bool ur rfl uu uv) ab)) fi fj))))))),?_⟩
 (try dsimp only [cxOf])
 walk_at "rd";exact q
theorem av7:AF (defScope (top 7)) ["thing", "bound"]:=⟨∅⟩
theorem gl7:AG (defScope (top 7)) ["is_whole"]:=⟨∅⟩
def spBelow:Sp:=fun vs H Q _=>∃ i b:Int,vs=[.int i,.int b]/\0<=i/\i < b/\Q (.bl true) H
theorem scBelow:FnScope ["thing", "bound"] ["thing", "bound"] (defScope (top 7)):=⟨rfl,rfl,rfl,∅,rfl,∅,∅⟩
theorem uJ (F:Fun K "is_below" "is_below" (top 7) f fd) (Dis_whole:DefOk P w K mg base CX0 k "is_whole" ["thing"] spWhole):FnOk P w K mg base CX0 (k + 1) f fd ["thing", "bound"] spBelow:=by
 have nd:=scBelow.nd;refine F.ok scBelow (fun vs H Q E h=>by obtain ⟨i,b,rfl,_⟩:=h; rfl) (fun cdv A outer s H vs Q E hr h=>?_)
 obtain ⟨i,b,rfl,h0,h1,q⟩:=h;refine ⟨_,(Pr.h (ai (au (bp (av Dis_whole hr (gl7.g 0 rfl) pass0 (aa (qv av7 0 rfl) ab ae) uB) (bc (sx pW ib ag (qv av7 0 rfl) (qv av7 1 rfl))))))),?_⟩
 (try dsimp only [cxOf])
 walk_at "rd";refine iteD h0 ?_;walk_at "rd";show Q (.bl (decide (i < b))) H;rw [y8 h1];exact q
theorem gl8:AG (defScope (top 8)) ["tuple", "list", "isinstance"]:=⟨∅⟩
theorem av8:AF (defScope (top 8)) ["thing"]:=⟨∅⟩
def spListed:Sp:=fun vs H Q _=>∃ (kd:SK) (a:Addr) (xs:List V),vs=[.ref a]/\SqX kd H a xs/\∀ H',Ch [] H H'->Q (.bl true) H'
theorem scListed:FnScope ["thing"] ["thing"] (defScope (top 8)):=⟨rfl,rfl,rfl,∅,rfl,∅,∅⟩
theorem uK (F:Fun K "is_listed" "is_listed" (top 8) f fd) (z_isinstance:mg "isinstance" = none) (z_list:mg "list" = none) (z_tuple:mg "tuple" = none):FnOk P w K mg base CX0 (k + 1) f fd ["thing"] spListed:=by
 have nd:=scListed.nd;refine F.ok scListed (fun vs H Q E h=>by obtain ⟨kd,a,xs,rfl,_⟩:=h; rfl) (fun cdv A outer s H vs Q E hr h=>?_)
 obtain ⟨kd,a,xs,rfl,hx,q⟩:=h;refine ⟨_,(Pr.h (ai (au (aF tT (gl8.g 2 rfl) z_isinstance fh (aa (qv av8 0 rfl) (aa (aD (aa (eD (v:=.ty "list") (gl8.g 1 rfl) z_list cX rfl cY cZ) (aa (eD (v:=.ty "tuple") (gl8.g 0 rfl) z_tuple dt rfl du dz) ab ae) ae)) ab)) fi fj)))),?_⟩
 (try dsimp only [cxOf])
 cases kd with
 | list =>
  have hx:H a=some (.lst xs):=hx;walk_at "rd";exact q _ (Ch.new (by assumption) _)
 | tuple =>
  have hx:H a=some (.tup xs):=hx;walk_at "rd";exact q _ (Ch.new (by assumption) _)
theorem gl10:AG (defScope (top 10)) ["len", "is_listed"]:=⟨∅⟩
theorem av10:AF (defScope (top 10)) ["row", "length"]:=⟨∅⟩
def spLength:Sp:=fun vs H Q _=>∃ (kd:SK) (a:Addr) (n:Int) (xs:List V),vs=[.ref a,.int n]/\SqX kd H a xs/\n=(xs.length:Int)/\∀ H',Ch [] H H'->Q .non H'
theorem scLength:FnScope ["row", "length"] ["row", "length"] (defScope (top 10)):=⟨rfl,rfl,rfl,∅,rfl,∅,∅⟩
theorem uL (F:Fun K "ask_length" "ask_length" (top 10) f fd) (Dis_listed:DefOk P w K mg base CX0 k "is_listed" ["thing"] spListed) (z_len:mg "len" = none):FnOk P w K mg base CX0 (k + 1) f fd ["row", "length"] spLength:=by
 have nd:=scLength.nd;refine F.ok scLength (fun vs H Q E h=>by obtain ⟨kd,a,n,xs,rfl,_⟩:=h; rfl) (fun cdv A outer s H vs Q E hr h=>?_)
 obtain ⟨kd,a,n,xs,rfl,hx,rfl,q⟩:=h;refine ⟨_,(Pr.h (ai (aw (br (bK (bW (aU (av Dis_listed hr (gl10.g 1 rfl) pass0 (aa (qv av10 0 rfl) ab ae) fm))) (bR (ay ed (aF aL (gl10.g 0 rfl) z_len yX (aa (qv av10 0 rfl) ab ae) aM aO) (qv av10 1 rfl) (nomark _))))) (ai fc) az))),?_⟩
 (try dsimp only [cxOf])
 cases kd with
 | list =>
  have hx:H a=some (.lst xs):=hx;refine ⟨_,rfl,.list,a,xs,rfl,hx,fun H1 c1=>?_⟩
  have hx1:H1 a=some (.lst xs):=c1.get hx (by simp)
  walk_at "rd";refine iteNn rfl ?_;exact q _ c1
 | tuple =>
  have hx:H a=some (.tup xs):=hx;refine ⟨_,rfl,.tuple,a,xs,rfl,hx,fun H1 c1=>?_⟩
  have hx1:H1 a=some (.tup xs):=c1.get hx (by simp)
  walk_at "rd";refine iteNn rfl ?_;exact q _ c1
theorem gl11:AG (defScope (top 11)) ["ask_length", "len", "zip", "is_below"]:=⟨∅⟩
theorem av11:AF (defScope (top 11)) ["row", "wides", "value", "wide"]:=⟨∅⟩
def spValues:Sp:=fun vs H Q _=>∃ (kd:SK) (a b:Addr) (bs:List Int),vs=[.ref a,.ref b]/\SqX kd H a (bs.map V.int)/\H b=some (.lst (List.replicate bs.length (.int 1)))/\(∀ x∈bs,0<=x/\x < 2)/\∀ H',Ch [] H H'->Q .non H'
theorem scValues:FnScope ["row", "wides", "value", "wide"] ["row", "wides"] (defScope (top 11)):=⟨rfl,rfl,rfl,∅,rfl,∅,∅⟩
theorem uM (F:Fun K "ask_values" "ask_values" (top 11) f fd) (Dask_length:DefOk P w K mg base CX0 k "ask_length" ["row", "length"] spLength) (Dis_below:DefOk P w K mg base CX0 k "is_below" ["thing", "bound"] spBelow) (z_len:mg "len" = none) (z_zip:mg "zip" = none):FnOk P w K mg base CX0 (k + 1) f fd ["row", "wides"] spValues:=by
 have nd:=scValues.nd;refine F.ok scValues (fun vs H Q E h=>by obtain ⟨kd,a,b,bs,rfl,_⟩:=h; rfl) (fun cdv A outer s H vs Q E hr h=>?_)
 obtain ⟨kd,a,b,bs,rfl,hx,hb,hbs,q⟩:=h;have body:∀ (i:Nat) (x y:V),(bs.map V.int)[i]?=some x->(List.replicate bs.length (V.int 1))[i]?=some y->∃ z:Int,x=.int z/\y=.int 1/\0<=z/\z < 2:=by
  intro i x y e1 e2;rw [yY] at e1;cases e:bs[i]? with
  | none=>rw [e] at e1; cases e1
  | some z =>
   rw [e] at e1;have:=hbs z (zc e);rw [AA] at e2
   split at e2
   ·exact ⟨z,(zp e1).symm,(zp e2).symm,this.1,this.2⟩
   ·cases e2
 cases kd with
 | list =>
  have hx:H a=some (.lst (bs.map V.int)):=hx;refine ⟨_,(Pr.h (aj (bM (av Dask_length hr (gl11.g 0 rfl) pass0 (aa (qv av11 0 rfl) (aa (aF aL (gl11.g 1 rfl) z_len yX (aa (qv av11 1 rfl) ab ae) aM aO) ab bb) ae) iF)) (ai (bB zm rfl (eE .list .list (gl11.g 2 rfl) z_zip (aa (qv av11 0 rfl) (aa (qv av11 1 rfl) ab ae) ae)) (cg rfl (aX (aG (i:=2) nd rfl (av11.l 2 rfl)) (aX (aG (i:=3) nd rfl (av11.l 3 rfl)) bS))) (ai (aw (bW (aU (av Dis_below hr (gl11.g 3 rfl) pass0 (aa (qv av11 2 rfl) (aa (ar jN ag (qv av11 3 rfl)) ab bh) ae) dW))) (ai fc) az)))))),?_⟩
  (try dsimp only [cxOf])
  walk_at "rd";rename_i H1 c1;have hx1:H1 a=some (.lst (bs.map V.int)):=c1.get hx (by simp)
  have hb1:H1 b=some (.lst (List.replicate bs.length (.int 1))):=c1.get hb (by simp)
  refine eC (xs:=bs.map V.int) (ys:=List.replicate bs.length (.int 1)) (fun i σ H'=>Ch [] H H'/\∃ u v,σ=[some (.ref a),some (.ref b),u,v]) ⟨c1,_,_,rfl⟩ ?_ ?_ ?_
  ·rintro i σ H' hi ⟨c,_⟩
   exact ⟨SqL.of (c.get hx (by simp)),SqL.of (c.get hb (by simp))⟩
  ·rintro i x y σ H' T e1 e2 ⟨c,u,v,rfl⟩ hT
   obtain ⟨z,rfl,rfl,z0,z1⟩:=body i x y e1 e2;walk_at "rd"
  ·rintro σ H' ⟨c,_⟩
   exact q _ c
 | tuple =>
  have hx:H a=some (.tup (bs.map V.int)):=hx;refine ⟨_,(Pr.h (aj (bM (av Dask_length hr (gl11.g 0 rfl) pass0 (aa (qv av11 0 rfl) (aa (aF aL (gl11.g 1 rfl) z_len yX (aa (qv av11 1 rfl) ab ae) aM aO) ab bb) ae) iF)) (ai (bB zm rfl (eE .tuple .list (gl11.g 2 rfl) z_zip (aa (qv av11 0 rfl) (aa (qv av11 1 rfl) ab ae) ae)) (cg rfl (aX (aG (i:=2) nd rfl (av11.l 2 rfl)) (aX (aG (i:=3) nd rfl (av11.l 3 rfl)) bS))) (ai (aw (bW (aU (av Dis_below hr (gl11.g 3 rfl) pass0 (aa (qv av11 2 rfl) (aa (ar jN ag (qv av11 3 rfl)) ab bh) ae) dW))) (ai fc) az)))))),?_⟩
  (try dsimp only [cxOf])
  walk_at "rd";rename_i H1 c1;have hx1:H1 a=some (.tup (bs.map V.int)):=c1.get hx (by simp)
  have hb1:H1 b=some (.lst (List.replicate bs.length (.int 1))):=c1.get hb (by simp)
  refine eC (xs:=bs.map V.int) (ys:=List.replicate bs.length (.int 1)) (fun i σ H'=>Ch [] H H'/\∃ u v,σ=[some (.ref a),some (.ref b),u,v]) ⟨c1,_,_,rfl⟩ ?_ ?_ ?_
  ·rintro i σ H' hi ⟨c,_⟩
   exact ⟨SqT.of (c.get hx (by simp)),SqL.of (c.get hb (by simp))⟩
  ·rintro i x y σ H' T e1 e2 ⟨c,u,v,rfl⟩ hT
   obtain ⟨z,rfl,rfl,z0,z1⟩:=body i x y e1 e2;walk_at "rd"
  ·rintro σ H' ⟨c,_⟩
   exact q _ c
end
inductive Gt where
 | inp | zero | one
 | keep (f:Int) (a:Nat)
 | not (a:Nat)
 | and (a b:Nat)
 | or (a b:Nat)
 | xor (a b:Nat)
 | pick (a b c:Nat)
deriving DecidableEq
def Gt.vs:Gt->List V
 | .inp=>[.str "in"]
 | .zero=>[.str "zero"]
 | .one=>[.str "one"]
 | .keep f a=>[.str "keep",.int f,.int a]
 | .not a=>[.str "not",.int a]
 | .and a b=>[.str "and",.int a,.int b]
 | .or a b=>[.str "or",.int a,.int b]
 | .xor a b=>[.str "xor",.int a,.int b]
 | .pick a b c=>[.str "pick",.int a,.int b,.int c]
def Gt.ok (i n:Nat):Gt->Prop
 | .inp=>True
 | .zero=>True
 | .one=>True
 | .keep f a=>0<=f/\f < 2/\a < n
 | .not a=>a < i
 | .and a b=>a < i/\b < i
 | .or a b=>a < i/\b < i
 | .xor a b=>a < i/\b < i
 | .pick a b c=>a < i/\b < i/\c < i
structure Gs (H:Hp) (gs:List Gt) (xs:List V):Prop where
 len:xs.length=gs.length
 at_:∀ (i:Nat) (g:Gt),gs[i]?=some g->∃ p,xs[i]?=some (.ref p)/\H p=some (.tup g.vs)
theorem Gs.tu {H:Hp}{xs:List V} (h:Gs H gs xs) (t:Tu H H'):Gs H' gs xs:=⟨h.len,fun i g e=>let ⟨p,a,b⟩:=h.at_ i g e; ⟨p,a,t p _ b⟩⟩
def Oks (gs:List Gt):Prop:=∀ (i:Nat) (g:Gt),gs[i]?=some g->g.ok i gs.length
def FC:List (Str × Int):=[("in",0),("zero",0),("one",0),("not",1),("and",2),("or",2),("xor",2),("pick",3)]
theorem dH {K:PySem.W.Frag}{pt:Addr}{zs:List Int}{i:Int}{Q':List V->Hp->Prop} (hz:∀ z∈zs,0<=z/\z < i) (hp:H pt=some (.tup (zs.map V.int))) (hl:zs.length < 100)
  (h:∀ ys H',Ch [] H H'->ys=List.replicate zs.length (V.bl true)->Q' ys H'):Comp (Itt K pt) (gName 0) tYes (tCall spBelow [] E0 (tCons (tVar 0) (tCons (tVar 1) tNil))) Q' [none,some (.int i)] H:=by
 refine gm (zs.map V.int) (fun j ys σ H'=>H'=H/\ys=List.replicate j (V.bl true)/\∃ u,σ=[u,some (.int i)]) (by rw [yS,zf]; omega) ⟨rfl,rfl,_,rfl⟩ ?_ ?_ ?_
 ·rintro j ys σ H' hj ⟨rfl,rfl,u,rfl⟩
  exact ⟨by simp,SqT.of hp⟩
 ·rintro j ys σ H' x hx ⟨rfl,rfl,u,rfl⟩
  obtain ⟨z,hz',rfl⟩:∃ z∈zs,x=.int z:=by
   rw [yY] at hx;obtain ⟨z,h1,h2⟩:=zt.mp hx;exact ⟨z,zc h1,h2.symm⟩
  obtain ⟨h0,h1⟩:=hz z hz';exact ⟨_,rfl,_,rfl,z,i,rfl,h0,h1,rfl,by rw [<- List.replicate_succ'],_,rfl⟩
 ·rintro ys σ H' ⟨rfl,rfl,_⟩
  exact h _ _ (Ch.refl _ _) (by rw [yS])
section
variable {P:Program}{w:World}{K:PySem.W.Frag}{mg:Str->Option Value}{base:Heap}{f:Addr}{fd:FuncData}{k:Nat}
theorem gl15:AG (defScope (top 15)) ["isinstance", "str", "len", "tuple", "is_below", "FEED_COUNTS", "all"]:=⟨∅⟩
theorem av15:AF (defScope (top 15)) ["thing", "ahead", "total"]:=⟨∅⟩
def gC:Scope:=⟨.function,[(".0",.local),("feed",.local),("is_below",.globalImplicit),("ahead",.free)],false,false,[]⟩
theorem lA:CompOk gC (defScope (top 15)) (["feed"]:List Str) (["thing", "ahead", "total"]:List Str) [1] (["feed", "ahead"]:List Str):=compOk rfl ∅ ∅ ∅ ∅ rfl ∅
theorem lB:AK (relab gC (defScope (top 15))) ["feed"]:=⟨∅⟩
theorem uN:AG (relab gC (defScope (top 15))) ["is_below"]:=⟨∅⟩
theorem lC:AV (relab gC (defScope (top 15))) ["feed", "ahead"]:=⟨∅⟩
def spGate:Sp:=fun vs H Q _=>∃ (p:Addr) (g:Gt) (i n:Nat) (i' n':Int),vs=[.ref p,.int i',.int n']/\H p=some (.tup g.vs)/\i'=(i:Int)/\n'=(n:Int)/\g.ok i n/\∀ H',Ch [] H H'->Q (.bl true) H'
theorem scGate:FnScope ["thing", "ahead", "total"] ["thing", "ahead", "total"] (defScope (top 15)):=⟨rfl,rfl,rfl,∅,rfl,∅,∅⟩
theorem uO {fa:Addr}{kvs:List (Key × V)} (F:Fun K "is_gate" "is_gate" (top 15) f fd) (Dis_below:DefOk P w K mg base CX0 k "is_below" ["thing", "bound"] spBelow)
  (m_FEED_COUNTS:mg "FEED_COUNTS" = some (.ref fa)) (hKD:KD P w K fa kvs) (hF:∀ w n,(w,n)∈FC->valV kvs (Sum.inr w)=some (.int n))
  (z_isinstance:mg "isinstance" = none) (z_tuple:mg "tuple" = none) (z_str:mg "str" = none) (z_len:mg "len" = none) (z_all:mg "all" = none):FnOk P w K mg base CX0 (k + 1) f fd ["thing", "ahead", "total"] spGate:=by
 have nd:=scGate.nd;refine F.ok scGate (fun vs H Q E h=>by obtain ⟨p,g,i,n,i',n',rfl,_⟩:=h; rfl) (fun cdv A outer s H vs Q E hr h=>?_)
 obtain ⟨p,g,i,n,i',n',rfl,hp,rfl,rfl,hok,q⟩:=h;refine ⟨_,(Pr.h (aj (aw (br (bK (bW (aU (aF fY (gl15.g 0 rfl) z_isinstance fh (aa (qv av15 0 rfl) (aa (eD (v:=.ty "tuple") (gl15.g 3 rfl) z_tuple dt rfl du dz) ab)) fi fj))) (bK (ay aB (aF aL (gl15.g 2 rfl) z_len yX (aa (qv av15 0 rfl) ab ae) aM aO) ag (nomark _)) (bR (bW (aU (aF fY (gl15.g 0 rfl) z_isinstance fh (aa (ak aH (qv av15 0 rfl) ag (fun _ _=>rfl)) (aa (eD (v:=.ty "str") (gl15.g 1 rfl) z_str uC rfl uD uE) ab)) fi fj))))))) (ai (au bz)) az) (aj (aw (ay aB (ak aH (qv av15 0 rfl) ag (fun _ _=>rfl)) aq (nomark _)) (ai (au (bp (bo aB (aF aL (gl15.g 2 rfl) z_len yX (aa (qv av15 0 rfl) ab ae) aM aO) ag (nomark _)) (bp (av Dis_below hr (gl15.g 4 rfl) pass0 (aa (ak aH (qv av15 0 rfl) ag (fun _ _=>rfl)) (aa ag ab ax) aK) dW) (bc (av Dis_below hr (gl15.g 4 rfl) pass0 (aa (ak aH (qv av15 0 rfl) ag (fun _ _=>rfl)) (aa (qv av15 2 rfl) ab ae) aK) dW)))))) az) (aj (aw (br (bK (ay su (ak aH (qv av15 0 rfl) ag (fun _ _=>rfl)) (eX (v:=.ref _) (gl15.g 5 rfl) m_FEED_COUNTS rfl kZ) rfl) (bR (ay ed (aF aL (gl15.g 2 rfl) z_len yX (aa (qv av15 0 rfl) ab ae) aM aO) (ar bN ag (iu (eX (v:=.ref _) (gl15.g 5 rfl) m_FEED_COUNTS rfl kZ) (ak aH (qv av15 0 rfl) ag (fun _ _=>rfl)) (fun _ _=>rfl))) (nomark _))))) (ai (au bz)) az) (ai (au (aF (tN rfl) (gl15.g 6 rfl) z_all uF (aa (cq rfl lA (eY (gc fU (qv av15 0 rfl) (gh ag) gf)) (fun _ _ _ _ _=>(aG (i:=0) lA.nd rfl (Or.inl (lB.k 0 rfl)) (Or.inr (lB.k 0 rfl)))) (fun _ _ _ _ _=>bY) (fun _ _ _ _ _=>(av Dis_below hr (uN.g 0 rfl) pass0 (aa (qw lC 0 rfl) (aa (qw lC 1 rfl) ab ae) ae) dW))) ab dE) uG uH))))))),?_⟩
 (try dsimp only [cxOf])
 cases g with
 | inp =>
  have hv:=hF "in" 0 ∅
  have hp:H p=some (.tup [.str "in"]):=hp;walk_at "rd";rw [hv];refine iteF ?_;walk_at "rd";rename_i pt hpt;refine dH (zs:=[]) (by simp <;> omega) (by rw [ah,cut1]; rfl) (by simp) fun ys H' c e=>?_
  subst e;intro D hD;exact ⟨D,[],rfl,ah,q _ (((Ch.new hpt _).trans c).trans (Ch.new hD _))⟩
 | zero =>
  have hv:=hF "zero" 0 ∅
  have hp:H p=some (.tup [.str "zero"]):=hp;walk_at "rd";rw [hv];refine iteF ?_;walk_at "rd";rename_i pt hpt;refine dH (zs:=[]) (by simp <;> omega) (by rw [ah,cut1]; rfl) (by simp) fun ys H' c e=>?_
  subst e;intro D hD;exact ⟨D,[],rfl,ah,q _ (((Ch.new hpt _).trans c).trans (Ch.new hD _))⟩
 | one =>
  have hv:=hF "one" 0 ∅
  have hp:H p=some (.tup [.str "one"]):=hp;walk_at "rd";rw [hv];refine iteF ?_;walk_at "rd";rename_i pt hpt;refine dH (zs:=[]) (by simp <;> omega) (by rw [ah,cut1]; rfl) (by simp) fun ys H' c e=>?_
  subst e;intro D hD;exact ⟨D,[],rfl,ah,q _ (((Ch.new hpt _).trans c).trans (Ch.new hD _))⟩
 | not a =>
  have hv:=hF "not" 1 ∅
  have hp:H p=some (.tup [.str "not",.int a]):=hp;have ha:a < i:=hok;walk_at "rd";rw [hv];refine iteF ?_;walk_at "rd";rename_i pt hpt;refine dH (zs:=[(a:Int)]) (by simp <;> omega) (by rw [ah,cut1]; rfl) (by simp) fun ys H' c e=>?_
  subst e;intro D hD;exact ⟨D,[true],rfl,ah,q _ (((Ch.new hpt _).trans c).trans (Ch.new hD _))⟩
 | and a b =>
  have hv:=hF "and" 2 ∅
  have hp:H p=some (.tup [.str "and",.int a,.int b]):=hp;obtain ⟨ha,hb⟩:a < i/\b < i:=hok;walk_at "rd";rw [hv];refine iteF ?_;walk_at "rd";rename_i pt hpt;refine dH (zs:=[(a:Int),(b:Int)]) (by simp <;> omega) (by rw [ah,cut1]; rfl) (by simp) fun ys H' c e=>?_
  subst e;intro D hD;exact ⟨D,[true,true],rfl,ah,q _ (((Ch.new hpt _).trans c).trans (Ch.new hD _))⟩
 | or a b =>
  have hv:=hF "or" 2 ∅
  have hp:H p=some (.tup [.str "or",.int a,.int b]):=hp;obtain ⟨ha,hb⟩:a < i/\b < i:=hok;walk_at "rd";rw [hv];refine iteF ?_;walk_at "rd";rename_i pt hpt;refine dH (zs:=[(a:Int),(b:Int)]) (by simp <;> omega) (by rw [ah,cut1]; rfl) (by simp) fun ys H' c e=>?_
  subst e;intro D hD;exact ⟨D,[true,true],rfl,ah,q _ (((Ch.new hpt _).trans c).trans (Ch.new hD _))⟩
 | xor a b =>
  have hv:=hF "xor" 2 ∅
  have hp:H p=some (.tup [.str "xor",.int a,.int b]):=hp;obtain ⟨ha,hb⟩:a < i/\b < i:=hok;walk_at "rd";rw [hv];refine iteF ?_;walk_at "rd";rename_i pt hpt;refine dH (zs:=[(a:Int),(b:Int)]) (by simp <;> omega) (by rw [ah,cut1]; rfl) (by simp) fun ys H' c e=>?_
  subst e;intro D hD;exact ⟨D,[true,true],rfl,ah,q _ (((Ch.new hpt _).trans c).trans (Ch.new hD _))⟩
 | pick a b c =>
  have hv:=hF "pick" 3 ∅
  have hp:H p=some (.tup [.str "pick",.int a,.int b,.int c]):=hp;obtain ⟨ha,hb,hc⟩:a < i/\b < i/\c < i:=hok;walk_at "rd";rw [hv];refine iteF ?_;walk_at "rd";rename_i pt hpt;refine dH (zs:=[(a:Int),(b:Int),(c:Int)]) (by simp <;> omega) (by rw [ah,cut1]; rfl) (by simp) fun ys H' c e=>?_
  subst e;intro D hD;exact ⟨D,[true,true,true],rfl,ah,q _ (((Ch.new hpt _).trans c).trans (Ch.new hD _))⟩
 | keep ff a =>
  have hp:H p=some (.tup [.str "keep",.int ff,.int a]):=hp;obtain ⟨h1,h2,h3⟩:0<=ff/\ff < 2/\a < n:=hok;walk_at "rd";exact q _ (Ch.refl _ _)
theorem av19:AF (defScope (top 19)) ["gate"]:=⟨∅⟩
theorem gl19:AG (defScope (top 19)) ["list"]:=⟨∅⟩
def Gt.feeds:Gt->List Nat
 | .inp=>[]
 | .zero=>[]
 | .one=>[]
 | .keep f a=>[a]
 | .not a=>[a]
 | .and a b=>[a,b]
 | .or a b=>[a,b]
 | .xor a b=>[a,b]
 | .pick a b c=>[a,b,c]
theorem freeN{p r:Addr}{o:HO} (hp:H p=none) (hr:upd H p o r=none):H r=none:=by
 by_cases e:r=p
 ·rw [e]; exact hp
 ·rw [aR e] at hr; exact hr
def nV (a:Nat):V:=.int (a:Int)
def spFeeds:Sp:=fun vs H Q _=>∃ (p:Addr) (g:Gt),vs=[.ref p]/\H p=some (.tup g.vs)/\∀ r H',Ch [] H H'->H r=none->H' r=some (.lst (g.feeds.map nV))->Q (.ref r) H'
theorem scFeeds:FnScope ["gate"] ["gate"] (defScope (top 19)):=⟨rfl,rfl,rfl,∅,rfl,∅,∅⟩
theorem uP (F:Fun K "feeds_of" "feeds_of" (top 19) f fd) (z_list:mg "list" = none):FnOk P w K mg base CX0 (k + 1) f fd ["gate"] spFeeds:=by
 have nd:=scFeeds.nd;refine F.ok scFeeds (fun vs H Q E h=>by obtain ⟨p,g,rfl,_⟩:=h; rfl) (fun cdv A outer s H vs Q E hr h=>?_)
 obtain ⟨p,g,rfl,hp,q⟩:=h;refine ⟨_,(Pr.h (aj (aw (ay aB (ak aH (qv av19 0 rfl) ag (fun _ _=>rfl)) aq (nomark _)) (ai (au (bD (aa (ak aH (qv av19 0 rfl) ag (fun _ _=>rfl)) ab aK)))) az) (ai (au (bQ di (gl19.g 0 rfl) z_list cX (aa (gc fU (qv av19 0 rfl) (gh ag) gf) ab aK) cY cZ))))),?_⟩
 (try dsimp only [cxOf])
 cases g with
 | keep ff a =>
  have hp:H p=some (.tup [.str "keep",.int ff,.int a]):=hp;walk_at "rd";exact q _ _ (Ch.new (by assumption) _) (by assumption) ah
 | inp =>
  have hp:H p=some (.tup [.str "in"]):=hp;walk_at "rd";rename_i pt hpt r hr1;exact q _ _ ((Ch.new hpt _).trans (Ch.new hr1 _)) (freeN hpt hr1) (by rw [ah,cut1]; rfl)
 | zero =>
  have hp:H p=some (.tup [.str "zero"]):=hp;walk_at "rd";rename_i pt hpt r hr1;exact q _ _ ((Ch.new hpt _).trans (Ch.new hr1 _)) (freeN hpt hr1) (by rw [ah,cut1]; rfl)
 | one =>
  have hp:H p=some (.tup [.str "one"]):=hp;walk_at "rd";rename_i pt hpt r hr1;exact q _ _ ((Ch.new hpt _).trans (Ch.new hr1 _)) (freeN hpt hr1) (by rw [ah,cut1]; rfl)
 | not a =>
  have hp:H p=some (.tup [.str "not",.int a]):=hp;walk_at "rd";rename_i pt hpt r hr1;exact q _ _ ((Ch.new hpt _).trans (Ch.new hr1 _)) (freeN hpt hr1) (by rw [ah,cut1]; rfl)
 | and a b =>
  have hp:H p=some (.tup [.str "and",.int a,.int b]):=hp;walk_at "rd";rename_i pt hpt r hr1;exact q _ _ ((Ch.new hpt _).trans (Ch.new hr1 _)) (freeN hpt hr1) (by rw [ah,cut1]; rfl)
 | or a b =>
  have hp:H p=some (.tup [.str "or",.int a,.int b]):=hp;walk_at "rd";rename_i pt hpt r hr1;exact q _ _ ((Ch.new hpt _).trans (Ch.new hr1 _)) (freeN hpt hr1) (by rw [ah,cut1]; rfl)
 | xor a b =>
  have hp:H p=some (.tup [.str "xor",.int a,.int b]):=hp;walk_at "rd";rename_i pt hpt r hr1;exact q _ _ ((Ch.new hpt _).trans (Ch.new hr1 _)) (freeN hpt hr1) (by rw [ah,cut1]; rfl)
 | pick a b c =>
  have hp:H p=some (.tup [.str "pick",.int a,.int b,.int c]):=hp;walk_at "rd";rename_i pt hpt r hr1;exact q _ _ ((Ch.new hpt _).trans (Ch.new hr1 _)) (freeN hpt hr1) (by rw [ah,cut1]; rfl)
def numsOf (t:Gt->Bool):List Gt->Nat->List Nat
 | [],_=>[]
 | g :: gs,i=>if t g then i :: numsOf t gs (i + 1) else numsOf t gs (i + 1)
def Gt.isIn:Gt->Bool
 | .inp=>true
 | _=>false
def Gt.isKeep:Gt->Bool
 | .keep _ _=>true
 | _=>false
theorem iG (t:Gt->Bool):∀ (a b:List Gt) (i:Nat),numsOf t (a++b) i=numsOf t a i++numsOf t b (i + a.length)
 | [],b,i=>by simp [numsOf]
 | g :: a,b,i=>by
  have:=iG t a b (i + 1);simp only [List.cons_append,numsOf,zK];rw [this,show i + 1 + a.length=i + (a.length + 1) by omega]
  split <;> simp
theorem lD (t:Gt->Bool) (h:gs[i]?=some g):numsOf t (gs.take (i + 1)) 0=numsOf t (gs.take i) 0++if t g then [i] else []:=by
 have hi:i < gs.length:=(yR.mp h).1;rw [zx,h,iG];simp only [Option.toList_some,numsOf,Nat.zero_add,zH,Nat.min_eq_left (zF hi)]
theorem dI (t:Gt->Bool):∀ (gs:List Gt) (i:Nat),(numsOf t gs i).length<=gs.length
 | [],_=>by simp [numsOf]
 | g :: gs,i=>by
  have:=dI t gs (i + 1);simp only [numsOf,zK]
  split <;> simp <;> omega
end
theorem chFree {H':Hp} (c:Ch [] H H') {r:Addr} (h:H' r=none):H r=none:=by
 cases e:H r with
 | none=>rfl
 | some o=>rw [c r o e (by simp)] at h; cases h
def fldsNet (gp op:Addr):List (Str × V):=[("gates",.ref gp),("outs",.ref op)]
theorem dJ (gp op:Addr):List.lookup (Str.ofString "gates") (fldsNet gp op)=some (.ref gp):=rfl
theorem fq (gp op:Addr):List.lookup (Str.ofString "outs") (fldsNet gp op)=some (.ref op):=rfl
structure NetAt (C:Addr) (H:Hp) (nt gp op:Addr) (gs:List Gt) (xs:List V) (os:List Nat):Prop where
 ob:∃ dx,H nt=some (.ins C dx (fldsNet gp op))
 gt:H gp=some (.tup xs)
 gg:Gs H gs xs
 ot:H op=some (.tup (os.map nV))
section
variable {P:Program}{w:World}{K:PySem.W.Frag}{mg:Str->Option Value}{base:Heap}{f:Addr}{fd:FuncData}{k:Nat}
theorem ft:∀ g:Gt,∃ (wd:Str) (rs:List V),g.vs=.str wd :: rs/\decide (V.str wd=V.str "in")=g.isIn
 | .inp=>⟨_,_,rfl,rfl⟩
 | .zero=>⟨_,_,rfl,rfl⟩
 | .one=>⟨_,_,rfl,rfl⟩
 | .keep _ _=>⟨_,_,rfl,rfl⟩
 | .not _=>⟨_,_,rfl,rfl⟩
 | .and _ _=>⟨_,_,rfl,rfl⟩
 | .or _ _=>⟨_,_,rfl,rfl⟩
 | .xor _ _=>⟨_,_,rfl,rfl⟩
 | .pick _ _ _=>⟨_,_,rfl,rfl⟩
theorem gG:∀ g:Gt,∃ (wd:Str) (rs:List V),g.vs=.str wd :: rs/\decide (V.str wd=V.str "keep")=g.isKeep
 | .inp=>⟨_,_,rfl,rfl⟩
 | .zero=>⟨_,_,rfl,rfl⟩
 | .one=>⟨_,_,rfl,rfl⟩
 | .keep _ _=>⟨_,_,rfl,rfl⟩
 | .not _=>⟨_,_,rfl,rfl⟩
 | .and _ _=>⟨_,_,rfl,rfl⟩
 | .or _ _=>⟨_,_,rfl,rfl⟩
 | .xor _ _=>⟨_,_,rfl,rfl⟩
 | .pick _ _ _=>⟨_,_,rfl,rfl⟩
theorem gl17:AG (defScope (top 17)) ["enumerate"]:=⟨∅⟩
theorem av17:AF (defScope (top 17)) ["net"]:=⟨∅⟩
def iH:Scope:=⟨.function,[(".0",.local),("number",.local),("gate",.local)],false,false,[]⟩
theorem iI:CompOk iH (defScope (top 17)) (["number", "gate"]:List Str) (["net"]:List Str) [] (["number", "gate"]:List Str):=compOk rfl ∅ ∅ ∅ ∅ rfl ∅
theorem gH:AK (relab iH (defScope (top 17))) ["number", "gate"]:=⟨∅⟩
theorem lE:AV (relab iH (defScope (top 17))) ["number", "gate"]:=⟨∅⟩
def spIns (C:Addr):Sp:=fun vs H Q _=>∃ (nt gp op:Addr) (gs:List Gt) (xs:List V) (os:List Nat),vs=[.ref nt]/\NetAt C H nt gp op gs xs os/\gs.length<=1000/\∀ r H',Ch [] H H'->H r=none->H' r=some (.lst ((numsOf Gt.isIn gs 0).map nV))->Q (.ref r) H'
theorem scIns:FnScope ["net"] ["net"] (defScope (top 17)):=⟨rfl,rfl,rfl,∅,rfl,∅,∅⟩
theorem uQ (F:Fun K "ins_of" "ins_of" (top 17) f fd) (cl:Cls K C) (nG:NoAttr K C "gates") (z_enumerate:mg "enumerate" = none):FnOk P w K mg base CX0 (k + 1) f fd ["net"] (spIns C):=by
 have nd:=scIns.nd;refine F.ok scIns (fun vs H Q E h=>by obtain ⟨nt,gp,op,gs,xs,os,rfl,_⟩:=h; rfl) (fun cdv A outer s H vs Q E hr h=>?_)
 obtain ⟨nt,gp,op,gs,xs,os,rfl,⟨⟨dx,hn⟩,hg,hgs,ho⟩,hlen,q⟩:=h;refine ⟨_,(Pr.h (ai (au (cq rfl iI (dU .tuple (gl17.g 0 rfl) z_enumerate (aa (aT (qv av17 0 rfl) rfl) ab bH)) (fun _ _ _ _ _=>(iB K 2 rfl rfl (aX (aG (i:=0) iI.nd rfl (Or.inl (gH.k 0 rfl)) (Or.inr (gH.k 0 rfl))) (aX (aG (i:=1) iI.nd rfl (Or.inl (gH.k 1 rfl)) (Or.inr (gH.k 1 rfl))) bS)))) (fun _ _ _ _ _=>(gq (ay aB (ak (cV K rfl) (qw lE 1 rfl) ag (fun _ _=>rfl)) aq (nomark _)))) (fun _ _ _ _ _=>(qw lE 0 rfl)))))),?_⟩
 (try dsimp only [cxOf])
 have fg:=dJ gp op;have hx:=hgs.len;walk_at "rd";refine kM xs (fun i ys σ H'=>Ch [] H H'/\ys=(numsOf Gt.isIn (gs.take i) 0).map nV/\∃ u v,σ=[u,v]) (by rw [zf]; omega) ⟨Ch.refl _ _,rfl,_,_,rfl⟩ ?_ ?_ ?_
 ·rintro i ys σ H' hi ⟨c,rfl,_⟩
  refine ⟨?_,SqT.of (c.get hg (by simp))⟩
  have:=dI Gt.isIn (gs.take i) 0;rw [zH] at this;rw [yS]; omega
 ·rintro i ys σ H' x T hx' ⟨c,rfl,u,v,rfl⟩ hT
  have hi:i < gs.length:=by rw [<- hx]; exact (yR.mp hx').1
  obtain ⟨g,hgi⟩:∃ g,gs[i]?=some g:=⟨_,yO hi⟩;obtain ⟨p,ep,hp⟩:=hgs.at_ i g hgi;rw [hx'] at ep;cases ep;have hp1:H' p=some (.tup g.vs):=c.get hp (by simp)
  have nt:=lD Gt.isIn hgi;obtain ⟨wd,rs,ev,hd⟩:=ft g;rw [ev] at hp1;walk_at "rd";rw [hd];cases ht:Gt.isIn g with
  | true =>
   refine iteT ?_;walk_at "rd";refine ⟨?_,_,_,rfl⟩;rw [nt,ht]; simp [nV]
  | false =>
   refine iteF ?_;refine ⟨c.trans (Ch.new hT _),?_,_,_,rfl⟩;rw [nt,ht]; simp
 ·rintro ys σ H' ⟨c,rfl,_⟩
  intro D hD;refine q _ _ (c.trans (Ch.new hD _)) (chFree c hD) ?_;rw [ah,hx,zu]
theorem gl18:AG (defScope (top 18)) ["enumerate"]:=⟨∅⟩
theorem av18:AF (defScope (top 18)) ["net"]:=⟨∅⟩
def iJ:Scope:=⟨.function,[(".0",.local),("number",.local),("gate",.local)],false,false,[]⟩
theorem iK:CompOk iJ (defScope (top 18)) (["number", "gate"]:List Str) (["net"]:List Str) [] (["number", "gate"]:List Str):=compOk rfl ∅ ∅ ∅ ∅ rfl ∅
theorem gI:AK (relab iJ (defScope (top 18))) ["number", "gate"]:=⟨∅⟩
theorem lF:AV (relab iJ (defScope (top 18))) ["number", "gate"]:=⟨∅⟩
def spKeeps (C:Addr):Sp:=fun vs H Q _=>∃ (nt gp op:Addr) (gs:List Gt) (xs:List V) (os:List Nat),vs=[.ref nt]/\NetAt C H nt gp op gs xs os/\gs.length<=1000/\∀ r H',Ch [] H H'->H r=none->H' r=some (.lst ((numsOf Gt.isKeep gs 0).map nV))->Q (.ref r) H'
theorem scKeeps:FnScope ["net"] ["net"] (defScope (top 18)):=⟨rfl,rfl,rfl,∅,rfl,∅,∅⟩
theorem uR (F:Fun K "keeps_of" "keeps_of" (top 18) f fd) (cl:Cls K C) (nG:NoAttr K C "gates") (z_enumerate:mg "enumerate" = none):FnOk P w K mg base CX0 (k + 1) f fd ["net"] (spKeeps C):=by
 have nd:=scKeeps.nd;refine F.ok scKeeps (fun vs H Q E h=>by obtain ⟨nt,gp,op,gs,xs,os,rfl,_⟩:=h; rfl) (fun cdv A outer s H vs Q E hr h=>?_)
 obtain ⟨nt,gp,op,gs,xs,os,rfl,⟨⟨dx,hn⟩,hg,hgs,ho⟩,hlen,q⟩:=h;refine ⟨_,(Pr.h (ai (au (cq rfl iK (dU .tuple (gl18.g 0 rfl) z_enumerate (aa (aT (qv av18 0 rfl) rfl) ab bH)) (fun _ _ _ _ _=>(iB K 2 rfl rfl (aX (aG (i:=0) iK.nd rfl (Or.inl (gI.k 0 rfl)) (Or.inr (gI.k 0 rfl))) (aX (aG (i:=1) iK.nd rfl (Or.inl (gI.k 1 rfl)) (Or.inr (gI.k 1 rfl))) bS)))) (fun _ _ _ _ _=>(gq (ay aB (ak (cV K rfl) (qw lF 1 rfl) ag (fun _ _=>rfl)) aq (nomark _)))) (fun _ _ _ _ _=>(qw lF 0 rfl)))))),?_⟩
 (try dsimp only [cxOf])
 have fg:=dJ gp op;have hx:=hgs.len;walk_at "rd";refine kM xs (fun i ys σ H'=>Ch [] H H'/\ys=(numsOf Gt.isKeep (gs.take i) 0).map nV/\∃ u v,σ=[u,v]) (by rw [zf]; omega) ⟨Ch.refl _ _,rfl,_,_,rfl⟩ ?_ ?_ ?_
 ·rintro i ys σ H' hi ⟨c,rfl,_⟩
  refine ⟨?_,SqT.of (c.get hg (by simp))⟩
  have:=dI Gt.isKeep (gs.take i) 0;rw [zH] at this;rw [yS]; omega
 ·rintro i ys σ H' x T hx' ⟨c,rfl,u,v,rfl⟩ hT
  have hi:i < gs.length:=by rw [<- hx]; exact (yR.mp hx').1
  obtain ⟨g,hgi⟩:∃ g,gs[i]?=some g:=⟨_,yO hi⟩;obtain ⟨p,ep,hp⟩:=hgs.at_ i g hgi;rw [hx'] at ep;cases ep;have hp1:H' p=some (.tup g.vs):=c.get hp (by simp)
  have nt:=lD Gt.isKeep hgi;obtain ⟨wd,rs,ev,hd⟩:=gG g;rw [ev] at hp1;walk_at "rd";rw [hd];cases ht:Gt.isKeep g with
  | true =>
   refine iteT ?_;walk_at "rd";refine ⟨?_,_,_,rfl⟩;rw [nt,ht]; simp [nV]
  | false =>
   refine iteF ?_;refine ⟨c.trans (Ch.new hT _),?_,_,_,rfl⟩;rw [nt,ht]; simp
 ·rintro ys σ H' ⟨c,rfl,_⟩
  intro D hD;refine q _ _ (c.trans (Ch.new hD _)) (chFree c hD) ?_;rw [ah,hx,zu]
theorem gl16m0:AG (defScope (inClass (top 16) 0)) ["enumerate", "is_gate", "len", "is_below", "tuple"]:=⟨∅⟩
theorem av16m0:AF (defScope (inClass (top 16) 0)) ["self", "gates", "outs", "number", "gate", "out"]:=⟨∅⟩
def spNet (C:Addr):Sp:=fun vs H Q _=>∃ (nt dx gl ol:Addr) (gs:List Gt) (xs:List V) (os:List Nat),vs=[.ref nt,.ref gl,.ref ol]/\H nt=some (.ins C dx [])/\H gl=some (.lst xs)/\Gs H gs xs/\Oks gs/\gs.length<=1000 /\
 H ol=some (.lst (os.map nV))/\(∀ o∈os,o < gs.length)/\os.length<=1000/\∀ gp op H',Ch [nt] H H'->NetAt C H' nt gp op gs xs os->Q .non H'
theorem scNet:FnScope ["self", "gates", "outs", "number", "gate", "out"] ["self", "gates", "outs"] (defScope (inClass (top 16) 0)):=⟨rfl,rfl,rfl,∅,rfl,∅,∅⟩
theorem uS (F:Fun K "__init__" "Net.__init__" (inClass (top 16) 0) f fd) (cl:Cls K C) (nG:NoAttr K C "gates") (nO:NoAttr K C "outs") (Dis_gate:DefOk P w K mg base CX0 k "is_gate" ["thing", "ahead", "total"] spGate)
  (Dis_below:DefOk P w K mg base CX0 k "is_below" ["thing", "bound"] spBelow) (z_enumerate:mg "enumerate" = none) (z_len:mg "len" = none) (z_tuple:mg "tuple" = none):FnOk P w K mg base CX0 (k + 1) f fd ["self", "gates", "outs"] (spNet C):=by
 have nd:=scNet.nd;refine F.ok scNet (fun vs H Q E h=>by obtain ⟨nt,dx,gl,ol,gs,xs,os,rfl,_⟩:=h; rfl) (fun cdv A outer s H vs Q E hr h=>?_)
 obtain ⟨nt,dx,gl,ol,gs,xs,os,rfl,hn,hg,hgs,hok,hlen,ho,hos,hol,q⟩:=h;refine ⟨_,(Pr.h (aj (bB zm rfl (dU .list (gl16m0.g 0 rfl) z_enumerate (aa (qv av16m0 1 rfl) ab ae)) (cg rfl (aX (aG (i:=3) nd rfl (av16m0.l 3 rfl)) (aX (aG (i:=4) nd rfl (av16m0.l 4 rfl)) bS))) (ai (aw (bW (aU (av Dis_gate hr (gl16m0.g 1 rfl) pass0 (aa (qv av16m0 4 rfl) (aa (qv av16m0 3 rfl) (aa (aF aL (gl16m0.g 2 rfl) z_len yX (aa (qv av16m0 1 rfl) ab ae) aM aO) ab bb) ae) ae) lh))) (ai fc) az))) (aj (bB zm rfl (cf (qv av16m0 2 rfl)) (aG (i:=5) nd rfl (av16m0.l 5 rfl)) (ai (aw (bW (aU (av Dis_below hr (gl16m0.g 3 rfl) pass0 (aa (qv av16m0 5 rfl) (aa (aF aL (gl16m0.g 2 rfl) z_len yX (aa (qv av16m0 1 rfl) ab ae) aM aO) ab bb) ae) dW))) (ai fc) az))) (aj (cR (qv av16m0 0 rfl) (bQ dP (gl16m0.g 4 rfl) z_tuple dt (aa (qv av16m0 1 rfl) ab ae) du dz) rfl) (ai (cR (qv av16m0 0 rfl) (bQ dP (gl16m0.g 4 rfl) z_tuple dt (aa (qv av16m0 2 rfl) ab ae) du dz) rfl)))))),?_⟩
 (try dsimp only [cxOf])
 have hx:=hgs.len;walk_at "rd";refine eZ (xs:=xs) (fun i σ H'=>Ch [] H H'/\∃ u v r,σ=[some (.ref nt),some (.ref gl),some (.ref ol),u,v,r]) ⟨Ch.refl _ _,_,_,_,rfl⟩ ?_ ?_ ?_
 ·rintro i σ H' hi ⟨c,_⟩
  exact SqL.of (c.get hg (by simp))
 ·rintro i x σ H' T hx' ⟨c,u,v,r,rfl⟩ hT
  have hi:i < gs.length:=by rw [<- hx]; exact (yR.mp hx').1
  obtain ⟨g,hgi⟩:∃ g,gs[i]?=some g:=⟨_,yO hi⟩;obtain ⟨p,ep,hp⟩:=hgs.at_ i g hgi;rw [hx'] at ep;cases ep;have hp1:H' p=some (.tup g.vs):=c.get hp (by simp)
  have hg1:H' gl=some (.lst xs):=c.get hg (by simp)
  have hok1:g.ok i xs.length:=by rw [hx]; exact hok i g hgi
  walk_at "rd"
 ·rintro σ H1 ⟨c1,u,v,r,rfl⟩
  have ho1:H1 ol=some (.lst (os.map nV)):=c1.get ho (by simp)
  have hg1:H1 gl=some (.lst xs):=c1.get hg (by simp)
  walk_at "rd";refine fX (xs:=os.map nV) (fun i σ H'=>Ch [] H H'/\∃ u v r,σ=[some (.ref nt),some (.ref gl),some (.ref ol),u,v,r]) ⟨c1,_,_,_,rfl⟩ ?_ ?_ ?_
  ·rintro i σ H' hi ⟨c,_⟩
   exact SqL.of (c.get ho (by simp))
  ·rintro i x σ H' hx' ⟨c,u,v,r,rfl⟩
   obtain ⟨o,ho',rfl⟩:∃ o∈os,x=nV o:=by
    rw [yY] at hx';obtain ⟨z,h1,h2⟩:=zt.mp hx';exact ⟨z,zc h1,h2.symm⟩
   have:=hos o ho';have hg2:H' gl=some (.lst xs):=c.get hg (by simp)
   unfold nV;walk_at "rd"
  ·rintro σ H2 ⟨c2,u,v,r,rfl⟩
   have ho2:H2 ol=some (.lst (os.map nV)):=c2.get ho (by simp)
   have hg2:H2 gl=some (.lst xs):=c2.get hg (by simp)
   have hn2:H2 nt=some (.ins C dx []):=c2.get hn (by simp)
   walk_at "rd";rename_i l1 hl1 l2 hl2
   (try refine ⟨by show 1 < 1000; decide,?_⟩)
   have n1:l1≠nt:=(aY hn2 hl1).symm;have n2:l2≠nt:=by
    intro z;rw [z,ah] at hl2;cases hl2
   have cF:Ch [nt] H (upd (upd (upd (upd H2 l1 (.tup xs)) nt (.ins C dx (putF "gates" (.ref l1) []))) l2 (.tup (os.map nV))) nt (.ins C dx (putF "outs" (.ref l2) (putF "gates" (.ref l1) [])))) :=
    ((((Ch.wk c2).trans (Ch.new hl1 _)).trans Ch.put).trans (Ch.new hl2 _)).trans Ch.put
   refine q l1 l2 _ cF ⟨⟨dx,ah⟩,?_,hgs.tu (Tu.ch cF hn (fun xs z=>by cases z)),?_⟩
   ·exact aJ n1 (aA hl2 (aJ n1 ah))
   ·exact aJ n2 ah
end
end

section
def spNext (K:PySem.W.Frag):Sp:=fun vs H Q _=>∃ (a b:Addr) (ns:List Int) (c:Int),vs=[.ref a,.ref b]/\Scr K H a ns/\H b=some (.lst [.int c])/\0<=c/\c < 2 ^ 60 /\
 ∀ (n:Int) (H':Hp),0<=n->n < 2147483629->Ch [b] H H'->H' b=some (.lst [.int (c + 1)])->Q (.int n) H'
theorem fu {α:Type} (x:α):∀ n:Nat,(List.replicate n [x]).flatten=List.replicate n x
 | 0=>rfl
 | n + 1=>by rw [Aq,A4,fu x n,Aq]; rfl
section
variable {P:Program}{w:World}{K:PySem.W.Frag}{mg:Str->Option Value}{base:Heap}{f:Addr}{fd:FuncData}{k:Nat}
theorem av56:AF (defScope (top 56)) ["_law_script", "_law_at", "_law_cell", "_law_figures", "_law_k", "_law_m"]:=⟨∅⟩
theorem gl56:AG (defScope (top 56)) ["len", "range"]:=⟨∅⟩
theorem scNext:FnScope ["_law_script", "_law_at", "_law_cell", "_law_figures", "_law_k", "_law_m"] ["_law_script", "_law_at"] (defScope (top 56)):=⟨rfl,rfl,rfl,∅,rfl,∅,∅⟩
theorem uT (F:Fun K "_law_next" "_law_next" (top 56) f fd) (z_len:mg "len" = none) (z_range:mg "range" = none) :
  FnOk P w K mg base CX0 (k + 1) f fd ["_law_script", "_law_at"] (spNext K):=by
 have nd:=scNext.nd;refine F.ok scNext (fun vs H Q E h=>?_) (fun cdv A outer s H vs Q E hr h=>?_)
 ·obtain ⟨a,b,ns,c,rfl,_⟩:=h
  rfl
 obtain ⟨a,b,ns,c,rfl,hS,hb,h0,h1,q⟩:=h;refine ⟨_,(Pr.h (aj (bX (ar bN (ak aC (qv av56 1 rfl) ag (fun _ _=>rfl)) ag) (cQ (qv av56 1 rfl) ag cz)) (aj (aE (i:=2) nd rfl (av56.l 2 rfl) ag) (bG (aw (ay eQ (aF aL (gl56.g 0 rfl) z_len yX (aa (qv av56 0 rfl) ab ae) aM aO) ag (nomark _)) (ai (aE (i:=2) nd rfl (av56.l 2 rfl) (ak aC (qv av56 0 rfl) (ar aQ (ak aC (qv av56 1 rfl) ag (fun _ _=>rfl)) (aF aL (gl56.g 0 rfl) z_len yX (aa (qv av56 0 rfl) ab ae) aM aO)) (fun _ _=>rfl)))) az) (bG (aw (br (bZ (ay eQ (aF aL (gl56.g 0 rfl) z_len yX (aa (qv av56 0 rfl) ab ae) aM aO) ag (nomark _)) (cI (ay aB (ar aQ (ak aC (qv av56 0 rfl) ag (fun _ _=>rfl)) ag) ag (nomark _))))) (aj (aE (i:=3) nd rfl (av56.l 3 rfl) (qv av56 2 rfl)) (aj (bB zm rfl (cU (gl56.g 1 rfl) z_range (aa (ar aQ (ar aZ (ak aC (qv av56 1 rfl) ag (fun _ _=>rfl)) (aF aL (gl56.g 0 rfl) z_len yX (aa (qv av56 0 rfl) ab ae) aM aO)) ag) ab bh)) (aG (i:=4) nd rfl (av56.l 4 rfl)) (ai (aE (i:=3) nd rfl (av56.l 3 rfl) (ar aZ (qv av56 3 rfl) ag)))) (ai (aw (br (bK (ay ka (qv av56 3 rfl) (aD (aa ag (aa (sv pV ag) ab rV) ax)) rfl) (bR (ay ib (ak aC (qv av56 1 rfl) ag (fun _ _=>rfl)) (aF aL (gl56.g 0 rfl) z_len yX (aa (qv av56 0 rfl) ab ae) aM aO) (nomark _))))) (ai (au (ar aQ (qv av56 3 rfl) ag))) az)))) az) (aj (aE (i:=5) nd rfl (av56.l 5 rfl) (ar aQ (ar dO (ar bN (ar bN (ar aQ (qv av56 2 rfl) ag) (ar dO (ar dO (ak aC (qv av56 1 rfl) ag (fun _ _=>rfl)) (ak aC (qv av56 1 rfl) ag (fun _ _=>rfl))) ag)) ag) ag) ag)) (aj (aE (i:=5) nd rfl (av56.l 5 rfl) (ar aQ (ar dO (qv av56 5 rfl) (qv av56 5 rfl)) ag)) (ai (au (ar aQ (ar dO (ar bN (qv av56 5 rfl) (ar dO (ak aC (qv av56 1 rfl) ag (fun _ _=>rfl)) ag)) ag) ag)))))))))),?_⟩
 have h63:ns.length<=63:=hS.1
 (try dsimp only [cxOf])
 walk_at "rd";refine bC (fun σ H'=>∃ n:Int,σ=[some (.ref a),some (.ref b),some (.int n),none,none,none]/\Ch [b] H H'/\H' b=some (.lst [.int (c + 1)])) ?_ ?_
 ·walk_at "rd"
  refine ite2 (fun hc=>?_) (fun hc=>?_)
  ·have hc':0 < (ns.length:Int):=by simpa using hc
   have e1:0<=(c + 1) % (ns.length:Int):=zD _ (by omega)
   have e2:(c + 1) % (ns.length:Int) < (ns.length:Int):=zE _ hc';obtain ⟨n,hn⟩:=kD e1 e2;walk_at "rd"
  ·walk_at "rd"
 ·rintro σ H1 ⟨n,rfl,c1,b1⟩
  have hS1:Scr K H1 a ns:=hS.ch hb c1;refine bC (fun σ H'=>∃ u v w,σ=[some (.ref a),some (.ref b),some (.int n),u,v,w]/\Ch [b] H H'/\H' b=some (.lst [.int (c + 1)])) ?_ ?_
  ·walk_at "rd"
   refine ite2 (fun hc=>?_) (fun hc=>iteF ?_)
   ·have hc':0 < (ns.length:Int):=by simpa using hc
    obtain ⟨n0,hn0⟩:=kD (ns:=ns) (i:=0) (by omega) hc'
    walk_at "rd";refine ite2 (fun hd=>?_) (fun hd=>?_)
    ·walk_at "rd"
     refine dj (fun i σ H'=>H'=H1/\∃ g kk,σ=[some (.ref a),some (.ref b),some (.int n),some (.int g),kk,none]) ⟨rfl,_,_,rfl⟩ ?_ ?_
     ·rintro i σ H' hi ⟨rfl,g,kk,rfl⟩
      walk_at "rd"
     ·rintro σ H' ⟨rfl,g,kk,rfl⟩
      walk_at "rd";refine ite2 (fun hd=>iteT ?_) (fun hd=>?_)
      ·walk_at "rd"
       exact q _ _ (zD _ (by decide)) (Int.lt_of_lt_of_le (zE _ (by decide)) (by decide)) (c1.trans (Ch.new (by assumption) _)) (by walk_at "get")
      ·walk_at "rd"
       refine ite2 (fun he=>?_) (fun he=>?_)
       ·walk_at "rd"
        exact q _ _ (zD _ (by decide)) (Int.lt_of_lt_of_le (zE _ (by decide)) (by decide)) (c1.trans (Ch.new (by assumption) _)) (by walk_at "get")
       ·walk_at "rd"
    ·walk_at "rd"
   ·walk_at "rd"
  ·rintro σ H2 ⟨u,v,w,rfl,c2,b2⟩
   walk_at "rd";exact q _ _ (zD _ (by decide)) (zE _ (by decide)) c2 b2
end
theorem Gs.push{xs:List V}{p:Addr}{ys:List V} (h:Gs H gs xs) (hg:H gl=some (.lst ys)) (hp:H p=some (.tup g.vs)):Gs (upd H gl (.lst (xs++[.ref p]))) (gs++[g]) (xs++[.ref p]):=by
 have t:Tu H (upd H gl (.lst (xs++[.ref p]))):=Tu.lst Ch.put hg;refine ⟨by simp [h.len],fun i g' e=>?_⟩
 by_cases hi:i < gs.length
 ·rw [zb hi] at e
  obtain ⟨p',h1,h2⟩:=h.at_ i g' e;exact ⟨p',by rw [zb (by rw [h.len]; exact hi)]; exact h1,t _ _ h2⟩
 ·rw [zw (by omega)] at e
  have hi0:i - gs.length=0:=by
   rcases AW (i - gs.length) with z | z
   ·exact z
   ·rw [Ad (by simp; omega)] at e; cases e
  rw [hi0] at e;cases e;refine ⟨p,?_,t _ _ hp⟩;rw [zw (by rw [h.len]; omega),h.len,hi0]; rfl
theorem Gs.set{xs:List V}{p:Addr}{ys:List V} (h:Gs H gs xs) (hg:H gl=some (.lst ys)) (hp:H p=some (.tup g.vs)):Gs (upd H gl (.lst (xs.set j (.ref p)))) (gs.set j g) (xs.set j (.ref p)):=by
 have t:Tu H (upd H gl (.lst (xs.set j (.ref p)))):=Tu.lst Ch.put hg;refine ⟨by simp [h.len],fun i g' e=>?_⟩
 rw [A8] at e ⊢
 split at e
 ·split at e
  ·cases e
   rename_i h1 h2;refine ⟨p,?_,t _ _ hp⟩;rw [yN h1,yN (by rw [h.len]; exact h2)]
  ·cases e
 ·rename_i h1
  obtain ⟨p',h2,h3⟩:=h.at_ i g' e;exact ⟨p',by rw [yM h1]; exact h2,t _ _ h3⟩
theorem Gt.ok_mono{n:Nat} (h:g.ok i n) (hm:n<=m):g.ok i m:=by
 cases g <;> simp only [Gt.ok] at * <;> first | trivial | omega
theorem Oks.push (h:Oks gs) (hg:g.ok gs.length (gs.length + 1)):Oks (gs++[g]):=by
 intro i g' e;rw [zk,AD]
 by_cases hi:i < gs.length
 ·rw [zb hi] at e
  exact Gt.ok_mono (h i g' e) (by omega)
 ·rw [zw (by omega)] at e
  have hi0:i - gs.length=0:=by
   rcases AW (i - gs.length) with z | z
   ·exact z
   ·rw [Ad (by simp; omega)] at e; cases e
  rw [hi0] at e;cases e;rw [show i=gs.length by omega]; exact hg
theorem Oks.set (h:Oks gs) (hg:g.ok j gs.length):Oks (gs.set j g):=by
 intro i g' e;rw [zT];rw [A8] at e
 split at e
 ·split at e
  ·cases e
   rename_i h1 _;rw [<- h1]; exact hg
  ·cases e
 ·exact h i g' e
theorem iL {t:Gt->Bool}{g':Gt}:∀ {gs:List Gt}{j:Nat},gs[j]?=some g->t g=t g'->(gs.set j g').countP t=gs.countP t
 | [],_,h,_=>by simp at h
 | a :: gs,0,h,e=>by
  simp at h;subst h;simp [AI,e]
 | a :: gs,j + 1,h,e=>by
  have:=iL (gs:=gs) (j:=j) (by simpa using h) e
  simp [AI,this]
def WS:List Str:=["and", "or", "xor", "pick", "not", "and", "xor", "or", "zero", "one"]
def arW (x:Str):Nat:=if x = "zero" then 0 else if x = "one" then 0 else if x = "not" then 1 else if x = "pick" then 3 else 2
theorem mkG {x:Str} (hx:x∈WS) (hl:fs.length=arW x) (hf:∀ a∈fs,a < i):∃ g:Gt,g.vs=.str x :: fs.map nV/\g.ok i (i + 1)/\g.isIn=false/\g.isKeep=false:=by
 have two:∀ {fs:List Nat},fs.length=2->∃ a b,fs=[a,b]:=fun {fs} h=>by
  match fs,h with
  | [a,b],_=>exact ⟨a,b,rfl⟩
 have d2:∀ {y:Str},arW y=2->fs.length=arW y->∃ a b,fs=[a,b]:=fun h1 h2=>two (h2.trans h1)
 simp only [WS,yZ,ze,zh] at hx;rcases hx with rfl | rfl | rfl | rfl | rfl | rfl | rfl | rfl | rfl | rfl
 ·obtain ⟨a,b,rfl⟩:=d2 ∅ hl
  exact ⟨.and a b,rfl,⟨hf a (by simp),hf b (by simp)⟩,rfl,rfl⟩
 ·obtain ⟨a,b,rfl⟩:=d2 ∅ hl
  exact ⟨.or a b,rfl,⟨hf a (by simp),hf b (by simp)⟩,rfl,rfl⟩
 ·obtain ⟨a,b,rfl⟩:=d2 ∅ hl
  exact ⟨.xor a b,rfl,⟨hf a (by simp),hf b (by simp)⟩,rfl,rfl⟩
 ·have hl:fs.length=3:=hl.trans ∅
  match fs,hl with
  | [a,b,c],_=>exact ⟨.pick a b c,rfl,⟨hf a (by simp),hf b (by simp),hf c (by simp)⟩,rfl,rfl⟩
 ·have hl:fs.length=1:=hl.trans ∅
  match fs,hl with
  | [a],_=>exact ⟨.not a,rfl,hf a (by simp),rfl,rfl⟩
 ·obtain ⟨a,b,rfl⟩:=d2 ∅ hl
  exact ⟨.and a b,rfl,⟨hf a (by simp),hf b (by simp)⟩,rfl,rfl⟩
 ·obtain ⟨a,b,rfl⟩:=d2 ∅ hl
  exact ⟨.xor a b,rfl,⟨hf a (by simp),hf b (by simp)⟩,rfl,rfl⟩
 ·obtain ⟨a,b,rfl⟩:=d2 ∅ hl
  exact ⟨.or a b,rfl,⟨hf a (by simp),hf b (by simp)⟩,rfl,rfl⟩
 ·have hl:fs.length=0:=hl.trans ∅
  match fs,hl with
  | [],_=>exact ⟨.zero,rfl,trivial,rfl,rfl⟩
 ·have hl:fs.length=0:=hl.trans ∅
  match fs,hl with
  | [],_=>exact ⟨.one,rfl,trivial,rfl,rfl⟩
end

section
section
variable {P:Program}{w:World}{K:PySem.W.Frag}{mg:Str->Option Value}{base:Heap}{f:Addr}{fd:FuncData}{k:Nat}
theorem cj:Nd "_law_next" := ∅
theorem lG:bootBuiltins "max" = some (.builtin "max"):=∅
theorem lH:("max" : Str) ≠ "__name__" := ∅
theorem lI:Nd "max" := ∅
theorem iM:bootBuiltins "min" = some (.builtin "min"):=∅
theorem iN:("min" : Str) ≠ "__name__" := ∅
theorem iO:Nd "min" := ∅
structure NS (H0 H':Hp) (b gl:Addr) (c B:Int) (gs:List Gt) (xs:List V) (ins:Nat):Prop where
 ch:Ch [b] H0 H'
 at_:∃ c',H' b=some (.lst [.int c'])/\c<=c'/\c'<=c + B
 gl:H' gl=some (.lst xs)
 gg:Gs H' gs xs
 ok:Oks gs
 ci:gs.countP Gt.isIn=ins
 lo:∀ i,i < ins->gs[i]?=some .inp
theorem NS.bump {H':Hp}{b:Addr}{c':Int}{xs:List V}{ins:Nat} (n:NS H0 H' b gl c B gs xs ins) (nb:gl≠b) (hb:H' b=some (.lst [.int c'])) (c1:Ch [b] H' H1) (hb1:H1 b=some (.lst [.int (c' + 1)])):NS H0 H1 b gl c (B + 1) gs xs ins:=by
 obtain ⟨c'',h1,h2,h3⟩:=n.at_;rw [hb] at h1;injection h1 with h1; injection h1 with h1; injection h1 with h1 _; injection h1 with h1
 subst h1;exact ⟨n.ch.trans c1,⟨c' + 1,hb1,by omega,by omega⟩,c1.get n.gl (by simpa using nb),n.gg.tu (Tu.lst c1 hb),n.ok,n.ci,n.lo⟩
theorem NS.wk{b:Addr}{B B':Int}{xs:List V}{ins:Nat} (n:NS H0 H' b gl c B gs xs ins) (h:B<=B'):NS H0 H' b gl c B' gs xs ins:=by
 obtain ⟨c'',h1,h2,h3⟩:=n.at_;exact ⟨n.ch,⟨c'',h1,h2,by omega⟩,n.gl,n.gg,n.ok,n.ci,n.lo⟩
theorem NS.same {H':Hp}{b:Addr}{xs:List V}{ins:Nat} (n:NS H0 H' b gl c B gs xs ins) (c1:Ch [] H' H1):NS H0 H1 b gl c B gs xs ins:=by
 obtain ⟨c'',h1,h2,h3⟩:=n.at_;exact ⟨n.ch.trans (Ch.wk c1),⟨c'',c1.get h1 (by simp),h2,h3⟩,c1.get n.gl (by simp),n.gg.tu (Tu.same c1),n.ok,n.ci,n.lo⟩
theorem NS.push{b p:Addr}{xs:List V}{ins:Nat} (n:NS H0 H' b gl c B gs xs ins) (nb:gl≠b) (fg:H0 gl=none) (hp:H' p=some (.tup g.vs)) (hg:g.ok gs.length (gs.length + 1)) (hi:g.isIn=false):NS H0 (upd H' gl (.lst (xs++[.ref p]))) b gl c B (gs++[g]) (xs++[.ref p]) ins:=by
 obtain ⟨c'',h1,h2,h3⟩:=n.at_;refine ⟨Ch.own fg n.ch,⟨c'',aJ nb.symm h1,h2,h3⟩,ah,n.gg.push n.gl hp,n.ok.push hg,?_,fun i h=>?_⟩
 ·rw [Ae,n.ci]; simp [hi]
 ·have:=n.lo i h
  rw [zb (yR.mp this).1]; exact this
theorem NS.set{b p:Addr}{xs:List V}{ins:Nat}{g0:Gt} (n:NS H0 H' b gl c B gs xs ins) (nb:gl≠b) (fg:H0 gl=none) (hp:H' p=some (.tup g.vs)) (hj:gs[j]?=some g0) (hg:g.ok j gs.length) (hi:g0.isIn=g.isIn) (hl:ins<=j):NS H0 (upd H' gl (.lst (xs.set j (.ref p)))) b gl c B (gs.set j g) (xs.set j (.ref p)) ins:=by
 obtain ⟨c'',h1,h2,h3⟩:=n.at_;refine ⟨Ch.own fg n.ch,⟨c'',aJ nb.symm h1,h2,h3⟩,ah,n.gg.set n.gl hp,n.ok.set hg,?_,fun i h=>?_⟩
 ·rw [iL hj hi,n.ci]
 ·rw [AJ (by omega)]; exact n.lo i h
theorem NS.own{b p:Addr}{xs ys zs:List V}{ins:Nat} (n:NS H0 H' b gl c B gs xs ins) (f:H0 p=none) (pb:p≠b) (pg:p≠gl) (hp:H' p=some (.lst ys)):NS H0 (upd H' p (.lst zs)) b gl c B gs xs ins:=by
 obtain ⟨c'',h1,h2,h3⟩:=n.at_;exact ⟨Ch.own f n.ch,⟨c'',aJ pb.symm h1,h2,h3⟩,aJ pg.symm n.gl,n.gg.tu (Tu.lst Ch.put hp),n.ok,n.ci,n.lo⟩
theorem NS.fresh {H':Hp}{b p:Addr}{c B c0:Int}{gs:List Gt}{xs:List V}{ins:Nat} (n:NS H0 H' b gl c B gs xs ins) (hb:H0 b=some (.lst [.int c0])) (h:H' p=none):H0 p=none/\p≠b/\p≠gl:=by
 have f:H0 p=none:=by
  cases e:H0 p with
  | none=>rfl
  | some o =>
   by_cases z:p=b
   ·obtain ⟨c9,h9,_⟩:=n.at_
    rw [z,h9] at h; cases h
   ·have:=n.ch.get e (by simpa using z)
    rw [this] at h; cases h
 exact ⟨f,(aY hb f).symm,(aY n.gl h).symm⟩
structure KP (gs:List Gt) (lo hi:Nat):Prop where
 of:∀ j,lo<=j->j < hi->∃ ff a,gs[j]?=some (.keep ff a)
theorem KP.push{lo:Nat} (h:KP gs lo hi) (g:Gt):KP (gs++[g]) lo hi:=.mk fun j a b=>by
 obtain ⟨ff,x,e⟩:=h.of j a b;exact ⟨ff,x,by rw [zb (yR.mp e).1]; exact e⟩
theorem KP.more{lo:Nat}{x:Nat} (h:KP gs lo gs.length):KP (gs++[.keep ff x]) lo (gs.length + 1):=.mk fun j a b=>by
 by_cases e:j < gs.length
 ·exact (h.push _).of j a e
 ·refine ⟨ff,x,?_⟩
  rw [zw (by omega),show j - gs.length=0 by omega]; rfl
theorem KP.set{lo:Nat}{x:Nat} (h:KP gs lo hi):KP (gs.set i (.keep ff x)) lo hi:=.mk fun j a b=>by
 obtain ⟨ff',x',e⟩:=h.of j a b;rw [A8]
 split
 ·rw [yN (by rename_i z; rw [z]; exact (yR.mp e).1)]; exact ⟨_,_,rfl⟩
 ·exact ⟨_,_,e⟩
theorem uU {m:Int} (h0:0<=m) (h1:m < 10):∃ x∈WS,atI (WS.map V.str) m=some (.str x):=by
 have hk:m.toNat < WS.length:=by show m.toNat < 10; omega
 have e:m=((m.toNat:Nat):Int):=by omega
 refine ⟨WS[m.toNat],A6 hk,?_⟩;have:=bA (xs:=WS.map V.str) (j:=m.toNat) (v:=.str WS[m.toNat]) (by rw [yY,yO hk]; simp)
 rw [<- e] at this;exact this
structure Below (fs:List Nat) (n:Nat):Prop where
 of:∀ a∈fs,a < n
theorem Below.nil:Below [] n:=⟨fun a h=>by cases h⟩
theorem Below.snoc{a:Nat} (h:Below fs n) (ha:a < n):Below (fs++[a]) n:=⟨fun b hb=>by
 rcases zR.mp hb with h1 | h1
 ·exact h.of b h1
 ·rw [zI.mp h1]; exact ha⟩
def DD:List (Key × V):=[(Sum.inr "zero",.int 0),(Sum.inr "one",.int 0),(Sum.inr "not",.int 1),(Sum.inr "pick",.int 3)]
theorem uV {x:Str} (hx:x∈WS):(valV (mergeK [] DD) (Sum.inr x)).getD (.int 2)=.int (arW x:Int):=by
 simp only [WS,yZ,ze,zh] at hx;rcases hx with rfl | rfl | rfl | rfl | rfl | rfl | rfl | rfl | rfl | rfl <;> decide +kernel
theorem uW {x:Str} (hx:x∈WS):arW x<=3:=by
 simp only [WS,yZ,ze,zh] at hx;rcases hx with rfl | rfl | rfl | rfl | rfl | rfl | rfl | rfl | rfl | rfl <;> decide +kernel
theorem uX {m:Int} (h0:0<=m) (h1:m < 2):∃ x∈WS,arW x=0/\atI [V.str "zero",V.str "one"] m=some (.str x):=by
 have:m=0\/m=1:=by omega
 rcases this with rfl | rfl
 ·exact ⟨"zero",∅,∅,rfl⟩
 ·exact ⟨"one",∅,∅,rfl⟩
theorem av58:AF (defScope (top 58)) ["_law_script", "_law_at", "_law_ins", "_law_keeps", "_law_many", "_law_gates", "_law_k", "_law_m", "_law_word", "_law_feeds", "_law_j", "_law_outs"]:=⟨∅⟩
theorem gl58:AG (defScope (top 58)) ["range", "_law_next", "len", "max", "tuple", "min"]:=⟨∅⟩
def spLNet (K:PySem.W.Frag):Sp:=fun vs H Q _=>∃ (a b:Addr) (ns:List Int) (c ins' keeps' many':Int) (ins keeps many:Nat),vs=[.ref a,.ref b,.int ins',.int keeps',.int many']/\ins'=(ins:Int)/\keeps'=(keeps:Int)/\many'=(many:Int)/\ins<=12/\keeps<=12/\many<=24 /\
 Scr K H a ns/\H b=some (.lst [.int c])/\0<=c/\c < 2 ^ 59 /\
 ∀ (R gl ol:Addr) (gs:List Gt) (xs:List V) (os:List Nat) (H':Hp),NS H H' b gl c 1000 gs xs ins->H' R=some (.tup [.ref gl,.ref ol])->(gs.length<=48/\many<=gs.length)->H' ol=some (.lst (os.map nV))->(∀ o∈os,o < gs.length)->(os.length<=4/\(0 < gs.length->1<=os.length))->H gl=none->H ol=none->Q (.ref R) H'
theorem scLNet:FnScope ["_law_script", "_law_at", "_law_ins", "_law_keeps", "_law_many", "_law_gates", "_law_k", "_law_m", "_law_word", "_law_feeds", "_law_j", "_law_outs"] ["_law_script", "_law_at", "_law_ins", "_law_keeps", "_law_many"] (defScope (top 58)):=⟨rfl,rfl,rfl,∅,rfl,∅,∅⟩
theorem uY (F:Fun K "_law_net" "_law_net" (top 58) f fd) (D_law_next:DefOk P w K mg base CX0 k "_law_next" ["_law_script", "_law_at"] (spNext K)) (z_len:mg "len" = none) (z_range:mg "range" = none) (z_max:mg "max" = none) (z_min:mg "min" = none) (z_tuple:mg "tuple" = none) :
  FnOk P w K mg base CX0 (k + 1) f fd ["_law_script", "_law_at", "_law_ins", "_law_keeps", "_law_many"] (spLNet K):=by
 have nd:=scLNet.nd;refine F.ok scLNet (fun vs H Q E h=>by obtain ⟨a,b,ns,c,ins',keeps',many',ins,keeps,many,rfl,_⟩:=h; rfl) (fun cdv A outer s H vs Q E hr h=>?_)
 obtain ⟨a,b,ns,c,ins',keeps',many',ins,keeps,many,rfl,rfl,rfl,rfl,hi,hk,hm,hS,hb,h0,h1,q⟩:=h;have hu:=eV hr;refine ⟨_,(Pr.h (aj (aE (i:=5) nd rfl (av58.l 5 rfl) (ar ij (bD (aa (aD (aa aq ab ax)) ab bw)) (qv av58 2 rfl))) (aj (bB zm rfl (cU (gl58.g 0 rfl) z_range (aa (qv av58 3 rfl) ab ae)) (aG (i:=6) nd rfl (av58.l 6 rfl)) (ai (bM (cm zM zW zX cC (qv av58 5 rfl) (aa (aD (aa aq (aa (ar aQ (av D_law_next hr (gl58.g 1 rfl) pass0 (aa (qv av58 0 rfl) (aa (qv av58 1 rfl) ab ae) ae) cj) ag) (aa ag ab ax) bh) ax)) ab bw))))) (aj (bB zm rfl (cU (gl58.g 0 rfl) z_range (aa (qv av58 4 rfl) ab ae)) (aG (i:=6) nd rfl (av58.l 6 rfl)) (aj (aE (i:=7) nd rfl (av58.l 7 rfl) (av D_law_next hr (gl58.g 1 rfl) pass0 (aa (qv av58 0 rfl) (aa (qv av58 1 rfl) ab ae) ae) cj)) (aj (aE (i:=8) nd rfl (av58.l 8 rfl) (ak aC (bD (aa aq (aa aq (aa aq (aa aq (aa aq (aa aq (aa aq (aa aq (aa aq (aa aq ab ax) ax) ax) ax) ax) ax) ax) ax) ax) ax)) (ar aQ (qv av58 7 rfl) ag) (fun _ _=>rfl))) (bG (aw (br (bZ (ay aB (aF aL (gl58.g 2 rfl) z_len yX (aa (qv av58 5 rfl) ab ae) aM aO) ag (nomark _)) (cI (ay ka (qv av58 8 rfl) (aD (aa aq (aa aq ab ax) ax)) rfl)))) (ai (aE (i:=8) nd rfl (av58.l 8 rfl) (ak aC (bD (aa aq (aa aq ab ax) ax)) (ar aQ (ar aZ (qv av58 7 rfl) ag) ag) (fun _ _=>rfl)))) az) (aj (aE (i:=9) nd rfl (av58.l 9 rfl) (bD ab)) (aj (bB zm rfl (cU (gl58.g 0 rfl) z_range (aa (tS hu (tR (gu aq ag (gu aq ag (gu aq ag (gu aq ag tQ)))) rfl rfl (by intro z; cases z) (by decide)) (qv av58 8 rfl) ag ⟨rfl,rfl,rfl,rfl⟩) ab bb)) (aG (i:=10) nd rfl (av58.l 10 rfl)) (aj (aE (i:=7) nd rfl (av58.l 7 rfl) (av D_law_next hr (gl58.g 1 rfl) pass0 (aa (qv av58 0 rfl) (aa (qv av58 1 rfl) ab ae) ae) cj)) (ai (bM (cm zM zW zX cC (qv av58 9 rfl) (aa (fZ (ay aB (ar aQ (qv av58 7 rfl) ag) ag (nomark _)) (ar aQ (ar aZ (qv av58 7 rfl) ag) (aF aL (gl58.g 2 rfl) z_len yX (aa (qv av58 5 rfl) ab ae) aM aO)) (aF (p0 rfl) (gl58.g 3 rfl) z_max lG (aa ag (aa (ar dC (ar dC (aF aL (gl58.g 2 rfl) z_len yX (aa (qv av58 5 rfl) ab ae) aM aO) ag) (ar aQ (ar aZ (qv av58 7 rfl) ag) ag)) ab bh) ax) lH lI)) ab iq)))))) (ai (bM (cm zM zW zX cC (qv av58 5 rfl) (aa (bQ dP (gl58.g 4 rfl) z_tuple dt (aa (ar dQ (bD (aa (qv av58 8 rfl) ab ae)) (qv av58 9 rfl)) ab bh) du dz) ab bb)))))))))) (aj (bB zm rfl (sA (gl58.g 0 rfl) z_range (aa (qv av58 2 rfl) (aa (ar bN (qv av58 2 rfl) (qv av58 3 rfl)) ab bh) ae)) (aG (i:=6) nd rfl (av58.l 6 rfl)) (ai (bX (aD (aa aq (aa (ak aH (ak aC (qv av58 5 rfl) (qv av58 6 rfl) (fun _ _=>rfl)) ag (fun _ _=>rfl)) (aa (ar aQ (av D_law_next hr (gl58.g 1 rfl) pass0 (aa (qv av58 0 rfl) (aa (qv av58 1 rfl) ab ae) ae) cj) (aF aL (gl58.g 2 rfl) z_len yX (aa (qv av58 5 rfl) ab ae) aM aO)) ab bh) aK) ax)) (cQ (qv av58 5 rfl) (qv av58 6 rfl) cz)))) (aj (aE (i:=11) nd rfl (av58.l 11 rfl) (bD ab)) (aj (bB zm rfl (cU (gl58.g 0 rfl) z_range (aa (ar bN ag (ar aQ (av D_law_next hr (gl58.g 1 rfl) pass0 (aa (qv av58 0 rfl) (aa (qv av58 1 rfl) ab ae) ae) cj) ag)) ab bh)) (aG (i:=6) nd rfl (av58.l 6 rfl)) (ai (aw (ay eQ (aF aL (gl58.g 2 rfl) z_len yX (aa (qv av58 5 rfl) ab ae) aM aO) ag (nomark _)) (aj (aE (i:=7) nd rfl (av58.l 7 rfl) (av D_law_next hr (gl58.g 1 rfl) pass0 (aa (qv av58 0 rfl) (aa (qv av58 1 rfl) ab ae) ae) cj)) (ai (bM (cm zM zW zX cC (qv av58 11 rfl) (aa (fZ (ay aB (ar aQ (qv av58 7 rfl) ag) ag (nomark _)) (ar aQ (ar aZ (qv av58 7 rfl) ag) (aF aL (gl58.g 2 rfl) z_len yX (aa (qv av58 5 rfl) ab ae) aM aO)) (ar dC (ar dC (aF aL (gl58.g 2 rfl) z_len yX (aa (qv av58 5 rfl) ab ae) aM aO) ag) (ar aQ (ar aZ (qv av58 7 rfl) ag) (aF (jU rfl) (gl58.g 5 rfl) z_min iM (aa ag (aa (aF aL (gl58.g 2 rfl) z_len yX (aa (qv av58 5 rfl) ab ae) aM aO) ab bb) ax) iN iO)))) ab iq))))) az))) (ai (au (aD (aa (qv av58 5 rfl) (aa (qv av58 11 rfl) ab ae) ae))))))))))),?_⟩
 (try dsimp only [cxOf])
 walk_at "rd";rename_i p1 hp1 p2 hp2 gl hgl;have fg:H gl=none:=freeN hp1 (freeN hp2 hgl);have nb:gl≠b:=(aY hb fg).symm;have st0:NS H (upd (upd (upd H p1 (HO.tup [V.str (Str.ofString "in")])) p2 (HO.lst [V.ref p1])) gl (HO.lst (List.replicate ((ins:Int)).toNat [V.ref p1]).flatten)) b gl c 0 (List.replicate ins .inp) (List.replicate ins (.ref p1)) ins:=by
  have cc:Ch [] H (upd (upd (upd H p1 (HO.tup [V.str (Str.ofString "in")])) p2 (HO.lst [V.ref p1])) gl (HO.lst (List.replicate ((ins:Int)).toNat [V.ref p1]).flatten)):=((Ch.new hp1 _).trans (Ch.new hp2 _)).trans (Ch.new hgl _);refine ⟨Ch.wk cc,⟨c,cc.get hb (by simp),by omega,by omega⟩,by rw [ah,fu]; simp,⟨by simp,fun i g e=>?_⟩,fun i g e=>?_,by rw [List.countP_replicate]; rfl,fun i h=>by rw [AA,yN h]⟩
  ·rw [AA] at e
   split at e
   ·cases e
    rename_i hi2;exact ⟨p1,by rw [AA,yN hi2],aA hgl (aA hp2 ah)⟩
   ·cases e
  ·rw [AA] at e
   split at e
   ·cases e
    exact True.intro
   ·cases e
 generalize (upd (upd (upd H p1 (HO.tup [V.str (Str.ofString "in")])) p2 (HO.lst [V.ref p1])) gl (HO.lst (List.replicate ((ins:Int)).toNat [V.ref p1]).flatten))=H0 at st0 ⊢;clear hgl hp2 hp1;refine dj (fun i σ H'=>∃ gs xs u,σ=[some (.ref a),some (.ref b),some (.int (ins:Int)),some (.int (keeps:Int)),some (.int (many:Int)),some (.ref gl),u,none,none,none,none,none]/\NS H H' b gl c (i:Int) gs xs ins/\gs.length=ins + i/\KP gs ins gs.length) ⟨_,_,_,rfl,st0,by simp,.mk fun j h1 h2=>?_⟩ ?_ ?_
 ·simp at h2; omega
 ·rintro i σ H' hi' ⟨gs,xs,u,rfl,n,hl,kp⟩
  have hi2:i < keeps:=by simpa using hi'
  obtain ⟨c',hb1,hc1,hc2⟩:=n.at_;have hS1:Scr K H' a ns:=hS.ch hb n.ch;have hxl:=n.gg.len;have gl1:=n.gl;have nc:=n.ch;walk_at "rd";rename_i z H2 hz0 hz1 c2 hb2 p hp;have n2:=(n.bump nb hb1 c2 hb2).same (Ch.new hp (HO.tup [V.str (Str.ofString "keep"),V.int (z % 2),V.int 0]));have n3:=n2.push (g:=.keep (z % 2) 0) nb fg ah ⟨by omega,by omega,by omega⟩ rfl
  have gl2:=n2.gl;walk_at "rd";rw [zk]; exact kp.more
 ·rintro σ H' ⟨gs,xs,u,rfl,n,hl,kp⟩
  have hl:gs.length=ins + keeps:=by simpa using hl
  rw [hl] at kp;walk_at "rd";refine dj (fun i σ H'=>∃ gs xs u1 u2 u3 u4 u5,σ=[some (.ref a),some (.ref b),some (.int (ins:Int)),some (.int (keeps:Int)),some (.int (many:Int)),some (.ref gl),u1,u2,u3,u4,u5,none]/\NS H H' b gl c (12 + 4 * i:Int) gs xs ins/\gs.length=ins + keeps + i/\KP gs ins (ins + keeps)) ⟨_,_,_,_,_,_,_,rfl,n.wk (by simp; omega),by omega,kp⟩ ?_ ?_
  ·skip
   rintro i σ H' hi' ⟨gs,xs,u1,u2,u3,u4,u5,rfl,n,hl,kp⟩;have hi2:i < many:=by simpa using hi'
   obtain ⟨c',hb1,hc1,hc2⟩:=n.at_;have hS1:Scr K H' a ns:=hS.ch hb n.ch;have hxl:=n.gg.len;have gl1:=n.gl;have nc:=n.ch;walk_at "rd";rename_i m H2 hm0 hm1 c2 hb2 p hp;obtain ⟨x,hx,hat⟩:=uU (m:=m % 10) (by omega) (by omega)
   refine Atx.of hat ?_;have n2:=(n.bump nb hb1 c2 hb2).same (Ch.new hp (HO.lst (WS.map V.str)));have gl2:=n2.gl;walk_at "rd";refine bC (fun σ H3=>∃ x2,x2∈WS/\(gs.length=0->arW x2=0)/\σ=[some (.ref a),some (.ref b),some (.int (ins:Int)),some (.int (keeps:Int)),some (.int (many:Int)),some (.ref gl),some (.int (0 + (i:Int))),some (.int m),some (.str x2),u4,u5,none]/\NS H H3 b gl c (12 + 4 * i + 1:Int) gs xs ins) ?_ ?_
   ·walk_at "rd"
    refine ite2 (fun hc=>?_) (fun hc=>iteF ?_)
    ·walk_at "rd"
     rename_i pz hpz;refine ite2 (fun hd=>?_) (fun hd=>?_)
     ·obtain ⟨x2,hx2,hx3,hat2⟩:=uX (m:=m / 10 % 2) (by omega) (by omega)
      walk_at "rd";exact (n2.same (Ch.new hpz _)).same (Ch.new (by assumption) _)
     ·have hz:arW x=0:=by
       clear hat;simp only [WS,yZ,ze,zh] at hx;rcases hx with rfl | rfl | rfl | rfl | rfl | rfl | rfl | rfl | rfl | rfl <;> first | decide +kernel | (exfalso; revert hd; decide +kernel)
      exact ⟨x,hx,fun _=>hz,rfl,n2.same (Ch.new hpz _)⟩
    ·refine ⟨x,hx,fun z=>?_,rfl,n2⟩
     rw [<- hxl] at z;exact absurd (by rw [z]; decide) hc
   ·rintro σ H3 ⟨x2,hx2,hx0,rfl,n3⟩
    walk_at "rd";rename_i fl hfl dp hdp;refine ⟨(rfl:_=List.map (fun kv=>(kV kv.1,kv.2)) DD),by decide,?_⟩
    have hal:=uW hx2;have hdg:=uV hx2;have n4:=(n3.same (Ch.new hfl (HO.lst []))).same (Ch.own (o:=HO.dK (mergeK [] DD)) hdp (Ch.new hdp (HO.dK [])));have fl4:upd (upd (upd H3 fl (HO.lst [])) dp (HO.dK [])) dp (HO.dK (mergeK [] DD)) fl=some (HO.lst []):=Ch.get (W:=[]) (Ch.own hdp (Ch.new hdp (HO.dK []))) ah (by simp)
    have ffl:H fl=none:=by
     cases e:H fl with
     | none=>rfl
     | some o =>
      by_cases z:fl=b
      ·obtain ⟨c9,h9,_⟩:=n3.at_
       rw [z,h9] at hfl; cases hfl
      ·have:=n3.ch.get e (by simpa using z)
       rw [this] at hfl; cases hfl
    have nfb:fl≠b:=(aY hb ffl).symm;have nfg:fl≠gl:=(aY n3.gl hfl).symm;refine ⟨dp,rfl,Or.inl ⟨_,Or.inl ah⟩,_,rfl,_,DGet.k (k:=Sum.inr x2) ah,?_⟩;rw [hdg];generalize upd (upd (upd H3 fl (HO.lst [])) dp (HO.dK [])) dp (HO.dK (mergeK [] DD))=H4 at n4 fl4 ⊢;walk_at "rd";refine dj (fun j σ H5=>∃ fs u2 u5,σ=[some (.ref a),some (.ref b),some (.int (ins:Int)),some (.int (keeps:Int)),some (.int (many:Int)),some (.ref gl),some (.int (0 + (i:Int))),u2,some (.str x2),some (.ref fl),u5,none]/\NS H H5 b gl c (12 + 4 * i + 1 + j:Int) gs xs ins/\H5 fl=some (.lst (List.map nV fs))/\fs.length=j/\Below fs gs.length) ⟨[],_,_,rfl,n4.wk (by simp),fl4,rfl,.nil⟩ ?_ ?_
    ·rintro j σ H5 hj ⟨fs,v2,v5,rfl,n5,gf5,lf5,bf5⟩
     have hj2:j < arW x2:=by simpa using hj
     have hgp:0 < gs.length:=by
      rcases AW gs.length with z | z
      ·have:=hx0 z; omega
      ·exact z
     obtain ⟨c5,hb5,hc5,hd5⟩:=n5.at_;have hS5:Scr K H5 a ns:=hS.ch hb n5.ch;have gl5:=n5.gl;walk_at "rd";rename_i z H6 hz0 hz1 c6 hb6;have n6:=n5.bump nb hb5 c6 hb6;have gl6:=n6.gl;have gf6:H6 fl=some (.lst (List.map nV fs)):=c6.get gf5 (by simpa using nfb)
     refine ite2 (fun he=>?_) (fun he=>?_)
     ·obtain ⟨q1,hq1,hq2⟩:∃ q1:Nat,z / 2 % (xs.length:Int)=(q1:Int)/\q1 < gs.length:=by
       have h1:0<=z / 2 % (xs.length:Int):=zD _ (by omega)
       have h2:z / 2 % (xs.length:Int) < (xs.length:Int):=zE _ (by omega)
       exact ⟨(z / 2 % (xs.length:Int)).toNat,by omega,by omega⟩
      walk_at "rd";refine ⟨(n6.own ffl nfb nfg gf6).wk (by omega),(by rw [ah]; (try dsimp only); rw [hq1]; simp [nV]:_=some (HO.lst (List.map nV (fs++[q1])))),by simp [lf5],bf5.snoc hq2⟩
     ·obtain ⟨q1,hq1,hq2⟩:∃ q1:Nat,(if (xs.length:Int) - 1 - z / 2 % 4 > 0 then (xs.length:Int) - 1 - z / 2 % 4 else 0)=(q1:Int)/\q1 < gs.length:=by
       refine ⟨(if (xs.length:Int) - 1 - z / 2 % 4 > 0 then (xs.length:Int) - 1 - z / 2 % 4 else 0).toNat,?_,?_⟩ <;> split <;> omega
      walk_at "rd";refine ⟨(n6.own ffl nfb nfg gf6).wk (by omega),(by rw [ah]; (try dsimp only); rw [hq1]; simp [nV]:_=some (HO.lst (List.map nV (fs++[q1])))),by simp [lf5],bf5.snoc hq2⟩
    ·rintro σ H5 ⟨fs,v2,v5,rfl,n5,gf5,lf5,bf5⟩
     have lf5:fs.length=arW x2:=by simpa using lf5
     have gl5:=n5.gl;obtain ⟨g,eg,g1,g2,g3⟩:=mkG hx2 lf5 bf5.of;walk_at "rd";rename_i e1 he1 e2 he2 e3 he3;have n7:=((n5.same (Ch.new he1 (HO.lst [V.str x2]))).same (Ch.new he2 (HO.lst ([V.str x2]++List.map nV fs)))).same (Ch.new he3 (HO.tup ([V.str x2]++List.map nV fs)));have n8:=n7.push (g:=g) nb fg (by rw [ah,eg]; rfl) g1 g2
     exact ⟨n8.wk (by omega),by simp; omega,kp.push _⟩
  ·skip
   rintro σ H' ⟨gs,xs,u1,u2,u3,u4,u5,rfl,n,hl,kp⟩;have hl:gs.length=ins + keeps + many:=by simpa using hl
   have n:=n.wk (B':=108) (by simp; omega)
   walk_at "rd";refine dj (fun i σ H'=>∃ gs xs u1,σ=[some (.ref a),some (.ref b),some (.int (ins:Int)),some (.int (keeps:Int)),some (.int (many:Int)),some (.ref gl),u1,u2,u3,u4,u5,none]/\NS H H' b gl c (108 + i:Int) gs xs ins/\gs.length=ins + keeps + many/\KP gs ins (ins + keeps)) ⟨_,_,_,rfl,n.wk (by simp),hl,kp⟩ ?_ ?_
   ·skip
    rintro i σ H' hi' ⟨gs,xs,u1,rfl,n,hl,kp⟩;have hi2:i < keeps:=by omega
    obtain ⟨ff,a0,hj⟩:=kp.of (ins + i) (by omega) (by omega)
    obtain ⟨f0,f1,_⟩:0<=ff/\ff < 2/\_:=n.ok _ _ hj;obtain ⟨p,ep,hp⟩:=n.gg.at_ _ _ hj;have hp:H' p=some (.tup [.str "keep",.int ff,.int a0]):=hp;obtain ⟨c',hb1,hc1,hc2⟩:=n.at_;have hS1:Scr K H' a ns:=hS.ch hb n.ch;have hxl:=n.gg.len;have gl1:=n.gl;have hat:atI xs ((ins:Int) + (i:Int))=some (.ref p):=by
     have:=bA ep
     rwa [Int.natCast_add] at this
    have hix:ixN xs.length ((ins:Int) + (i:Int))=some (ins + i):=by
     unfold ixN; rw [yN (by omega),yN (by omega)]; congr 1
    walk_at "rd";rename_i z H2 hz0 hz1 c2 hb2 tp htp;have n2:=n.bump nb hb1 c2 hb2;have h1:0<=z % (xs.length:Int):=zD _ (by omega)
    have h2:z % (xs.length:Int) < (xs.length:Int):=zE _ (by omega)
    have n3:=n2.same (Ch.new htp (HO.tup [V.str (Str.ofString "keep"),V.int ff,V.int (z % (xs.length:Int))]));have gl3:=n3.gl;have n4:=n3.set (g:=.keep ff (z % (xs.length:Int)).toNat) nb fg (by rw [ah]; show _=some (HO.tup [_,_,V.int (((z % (xs.length:Int)).toNat:Nat):Int)]); rw [show (((z % (xs.length:Int)).toNat:Nat):Int)=z % (xs.length:Int) by omega]) hj ⟨f0,f1,by omega⟩ rfl (by omega)
    exact ⟨n4.wk (by omega),by simp [hl],kp.set⟩
   ·skip
    rintro σ H' ⟨gs,xs,u1,rfl,n,hl,kp⟩;have n:=n.wk (B':=120) (by omega)
    obtain ⟨c',hb1,hc1,hc2⟩:=n.at_;have hS1:Scr K H' a ns:=hS.ch hb n.ch;have hxl:=n.gg.len;walk_at "rd";rename_i ol hol z H2 hz0 hz1 c2 hb2;obtain ⟨fol,ob,og⟩:=n.fresh hb hol;have n2:=(n.same (Ch.new hol (HO.lst []))).bump nb (aA hol hb1) c2 hb2;have o2:H2 ol=some (.lst (List.map nV [])):=c2.get ah (by simpa using ob)
    refine dj (fun j σ H5=>∃ os u6 u7,σ=[some (.ref a),some (.ref b),some (.int (ins:Int)),some (.int (keeps:Int)),some (.int (many:Int)),some (.ref gl),u6,u7,u3,u4,u5,some (.ref ol)]/\NS H H5 b gl c (121 + j:Int) gs xs ins/\H5 ol=some (.lst (List.map nV os))/\(os.length<=j/\(0 < gs.length->j<=os.length))/\Below os gs.length) ⟨[],_,_,rfl,n2.wk (by omega),o2,by simp,.nil⟩ ?_ ?_
    ·rintro j σ H5 hj ⟨os,v2,v5,rfl,n5,gf5,lf5,bf5⟩
     have hj2:j < 4:=by omega
     obtain ⟨c5,hb5,hc5,hd5⟩:=n5.at_;have hS5:Scr K H5 a ns:=hS.ch hb n5.ch;have gl5:=n5.gl;walk_at "rd";refine ite2 (fun hc=>?_) (fun hc=>?_)
     ·have hgp:0 < gs.length:=by
       have:0 < (xs.length:Int):=by simpa using hc
       omega
      walk_at "rd";rename_i z H6 hz0 hz1 c6 hb6;have n6:=n5.bump nb hb5 c6 hb6;have gl6:=n6.gl;have gf6:H6 ol=some (.lst (List.map nV os)):=c6.get gf5 (by simpa using ob)
      refine ite2 (fun he=>?_) (fun he=>?_)
      ·obtain ⟨q1,hq1,hq2⟩:∃ q1:Nat,z / 2 % (xs.length:Int)=(q1:Int)/\q1 < gs.length:=by
        have h1:0<=z / 2 % (xs.length:Int):=zD _ (by omega)
        have h2:z / 2 % (xs.length:Int) < (xs.length:Int):=zE _ (by omega)
        exact ⟨(z / 2 % (xs.length:Int)).toNat,by omega,by omega⟩
       walk_at "rd";refine ⟨(n6.own fol ob og gf6).wk (by omega),(by rw [ah]; (try dsimp only); rw [hq1]; simp [nV]:_=some (HO.lst (List.map nV (os++[q1])))),by simp; omega,bf5.snoc hq2⟩
      ·obtain ⟨q1,hq1,hq2⟩:∃ q1:Nat,(xs.length:Int) - 1 - z / 2 % (if (xs.length:Int) < 3 then (xs.length:Int) else 3)=(q1:Int)/\q1 < gs.length:=by
        have h1:0<=z / 2 % (if (xs.length:Int) < 3 then (xs.length:Int) else 3):=zD _ (by split <;> omega)
        have h2:z / 2 % (if (xs.length:Int) < 3 then (xs.length:Int) else 3) < (if (xs.length:Int) < 3 then (xs.length:Int) else 3):=zE _ (by split <;> omega)
        have h3:(if (xs.length:Int) < 3 then (xs.length:Int) else 3)<=(xs.length:Int):=by split <;> omega
        refine ⟨((xs.length:Int) - 1 - z / 2 % (if (xs.length:Int) < 3 then (xs.length:Int) else 3)).toNat,?_,?_⟩ <;> (generalize (if (xs.length:Int) < 3 then (xs.length:Int) else 3)=W3 at *; generalize z / 2 % W3=Y3 at *; omega)
       walk_at "rd";refine ⟨(n6.own fol ob og gf6).wk (by omega),(by rw [ah]; (try dsimp only); rw [hq1]; simp [nV]:_=some (HO.lst (List.map nV (os++[q1])))),by simp; omega,bf5.snoc hq2⟩
     ·refine ⟨os,_,_,rfl,n5.wk (by omega),gf5,⟨by omega,fun h=>absurd (y8 (show (0:Int) < (xs.length:Int) by omega)) hc⟩,bf5⟩
    ·rintro σ H5 ⟨os,v2,v5,rfl,n5,gf5,lf5,bf5⟩
     walk_at "rd";rename_i R hR;exact q R gl ol gs xs os _ ((n5.same (Ch.new hR _)).wk (by omega)) ah (by omega) (aA hR gf5) bf5.of ⟨by omega,fun h=>by have:=lf5.2 h; omega⟩ fg fol
end
end

section
structure Box (Pd:Prop):Prop where
 h:Pd
theorem dX {n:Int} (h:0<=n):∃ m:Nat,n=(m:Int):=zQ h
structure DN (H0 H':Hp) (b gl ol:Addr) (c B:Int) (gs:List Gt) (xs:List V) (os:List Nat):Prop where
 ch:Ch [b] H0 H'
 at_:∃ c',H' b=some (.lst [.int c'])/\c<=c'/\c'<=c + B
 gl:H' gl=some (.lst xs)
 gg:Gs H' gs xs
 ok:Oks gs
 ol:H' ol=some (.lst (os.map nV))
 oo:∀ o∈os,o < gs.length
structure DF (H0:Hp) (b gl ol:Addr):Prop where
 g:H0 gl=none
 o:H0 ol=none
 gb:gl≠b
 ob:ol≠b
 go:gl≠ol
theorem DN.push{b p:Addr}{xs:List V} (n:DN H0 H' b gl ol c B gs xs os) (f:DF H0 b gl ol) (hp:H' p=some (.tup g.vs)) (hg:g.ok gs.length (gs.length + 1)):DN H0 (upd H' gl (.lst (xs++[.ref p]))) b gl ol c B (gs++[g]) (xs++[.ref p]) os:=by
 obtain ⟨c'',h1,h2,h3⟩:=n.at_;exact ⟨Ch.own f.g n.ch,⟨c'',aJ f.gb.symm h1,h2,h3⟩,ah,n.gg.push n.gl hp,n.ok.push hg,aJ f.go.symm n.ol,fun o m=>by have:=n.oo o m; simp; omega⟩
theorem DN.same {H':Hp}{b:Addr}{xs:List V} (n:DN H0 H' b gl ol c B gs xs os) (c1:Ch [] H' H1):DN H0 H1 b gl ol c B gs xs os:=by
 obtain ⟨c'',h1,h2,h3⟩:=n.at_;exact ⟨n.ch.trans (Ch.wk c1),⟨c'',c1.get h1 (by simp),h2,h3⟩,c1.get n.gl (by simp),n.gg.tu (Tu.same c1),n.ok,c1.get n.ol (by simp),n.oo⟩
theorem DN.out{b:Addr}{xs:List V}{o:Nat} (n:DN H0 H' b gl ol c B gs xs os) (f:DF H0 b gl ol) (ho:o < gs.length):DN H0 (upd H' ol (.lst ((os++[o]).map nV))) b gl ol c B gs xs (os++[o]):=by
 obtain ⟨c'',h1,h2,h3⟩:=n.at_;refine ⟨Ch.own f.o n.ch,⟨c'',aJ f.ob.symm h1,h2,h3⟩,aJ f.go n.gl,n.gg.tu (Tu.lst Ch.put n.ol),n.ok,ah,fun x m=>?_⟩
 rcases zR.mp m with m | m
 ·exact n.oo x m
 ·rw [zI.mp m]; exact ho
theorem DN.bump {H':Hp}{b:Addr}{c':Int}{xs:List V} (n:DN H0 H' b gl ol c B gs xs os) (f:DF H0 b gl ol) (hb:H' b=some (.lst [.int c'])) (c1:Ch [b] H' H1) (hb1:H1 b=some (.lst [.int (c' + 1)])):DN H0 H1 b gl ol c (B + 1) gs xs os:=by
 obtain ⟨c'',h1,h2,h3⟩:=n.at_;rw [hb] at h1;injection h1 with h1; injection h1 with h1; injection h1 with h1 _; injection h1 with h1
 subst h1;exact ⟨n.ch.trans c1,⟨c' + 1,hb1,by omega,by omega⟩,c1.get n.gl (by simpa using f.gb),n.gg.tu (Tu.lst c1 hb),n.ok,c1.get n.ol (by simpa using f.ob),n.oo⟩
theorem lJ {H3:Hp}{b p:Addr}{o:HO} (c:Ch [b] H H3) (hb:H3 b=some o) (hp:H3 p=none):H p=none/\p≠b:=by
 have n:p≠b:=fun z=>by rw [z,hb] at hp; cases hp
 refine ⟨?_,n⟩;cases e:H p with
 | none=>rfl
 | some o=>rw [c.get e (by simpa using n)] at hp; cases hp
theorem mk4 (h:j < 4):j=0\/j=1\/j=2\/j=3:=(by decide:∀ j,j < 4->j=0\/j=1\/j=2\/j=3) j h
section
variable {P:Program}{w:World}{K:PySem.W.Frag}{mg:Str->Option Value}{base:Heap}{f:Addr}{fd:FuncData}{k:Nat}
theorem uZ:Nd "_law_net" := ∅
theorem av59:AF (defScope (top 59)) ["_law_script", "_law_at", "_law_ins", "_law_keeps", "_law_gates", "_law_outs", "_law_m", "_law_k", "_law_one", "_law_other", "_law_some"]:=⟨∅⟩
theorem gl59:AG (defScope (top 59)) ["_law_next", "_law_net", "len", "range"]:=⟨∅⟩
def spDr (K:PySem.W.Frag):Sp:=fun vs H Q _=>∃ (a b:Addr) (ns:List Int) (c:Int),vs=[.ref a,.ref b]/\Scr K H a ns/\H b=some (.lst [.int c])/\0<=c/\c < 2 ^ 58 /\
 ∀ (R gl ol:Addr) (gs:List Gt) (xs:List V) (os:List Nat) (H':Hp),DN H H' b gl ol c 1010 gs xs os->H' R=some (.tup [.ref gl,.ref ol])->gs.length<=60->(os.length<=8/\1<=os.length)->(H gl=none/\ol≠b)->Q (.ref R) H'
theorem scDr:FnScope ["_law_script", "_law_at", "_law_ins", "_law_keeps", "_law_gates", "_law_outs", "_law_m", "_law_k", "_law_one", "_law_other", "_law_some"] ["_law_script", "_law_at"] (defScope (top 59)):=⟨rfl,rfl,rfl,∅,rfl,∅,∅⟩
theorem u0 (F:Fun K "_law_drawn" "_law_drawn" (top 59) f fd) (D_law_next:DefOk P w K mg base CX0 k "_law_next" ["_law_script", "_law_at"] (spNext K)) (D_law_net:DefOk P w K mg base CX0 k "_law_net" ["_law_script", "_law_at", "_law_ins", "_law_keeps", "_law_many"] (spLNet K)) (z_len:mg "len" = none) (z_range:mg "range" = none):FnOk P w K mg base CX0 (k + 1) f fd ["_law_script", "_law_at"] (spDr K):=by
 have nd:=scDr.nd;refine F.ok scDr (fun vs H Q E h=>by obtain ⟨a,b,ns,c,rfl,_⟩:=h; rfl) (fun cdv A outer s H vs Q E hr h=>?_)
 obtain ⟨a,b,ns,c,rfl,hS,hb,h0,h1,q⟩:=h;refine ⟨_,(Pr.h (aj (aE (i:=2) nd rfl (av59.l 2 rfl) (ar aQ (av D_law_next hr (gl59.g 0 rfl) pass0 (aa (qv av59 0 rfl) (aa (qv av59 1 rfl) ab ae) ae) cj) ag)) (aj (aE (i:=3) nd rfl (av59.l 3 rfl) (ar aQ (av D_law_next hr (gl59.g 0 rfl) pass0 (aa (qv av59 0 rfl) (aa (qv av59 1 rfl) ab ae) ae) cj) ag)) (aj (bX (av D_law_net hr (gl59.g 1 rfl) pass0 (aa (qv av59 0 rfl) (aa (qv av59 1 rfl) (aa (qv av59 2 rfl) (aa (qv av59 3 rfl) (aa (ar bN ag (ar aQ (av D_law_next hr (gl59.g 0 rfl) pass0 (aa (qv av59 0 rfl) (aa (qv av59 1 rfl) ab ae) ae) cj) ag)) ab bh) ae) ae) ae) ae) uZ) (cg rfl (aX (aG (i:=4) nd rfl (av59.l 4 rfl)) (aX (aG (i:=5) nd rfl (av59.l 5 rfl)) bS)))) (aj (aE (i:=6) nd rfl (av59.l 6 rfl) (av D_law_next hr (gl59.g 0 rfl) pass0 (aa (qv av59 0 rfl) (aa (qv av59 1 rfl) ab ae) ae) cj)) (bG (aw (ay aB (ar aQ (qv av59 6 rfl) ag) ag (nomark _)) (aj (bM (cm zM zW zX cC (qv av59 4 rfl) (aa (aD (aa aq ab ax)) ab bw))) (ai (bM (cm zM zW zX cC (qv av59 5 rfl) (aa (ar dC (aF aL (gl59.g 2 rfl) z_len yX (aa (qv av59 4 rfl) ab ae) aM aO) ag) ab bh))))) az) (bG (aw (ay aB (ar aQ (ar aZ (qv av59 6 rfl) ag) ag) ag (nomark _)) (aj (bB zm rfl (cU (gl59.g 3 rfl) z_range (aa (ar bN ag (ar aQ (ar aZ (qv av59 6 rfl) ag) ag)) ab bh)) (aG (i:=7) nd rfl (av59.l 7 rfl)) (aj (aE (i:=8) nd rfl (av59.l 8 rfl) (ar aQ (ar aZ (qv av59 6 rfl) (ar bN ag (qv av59 7 rfl))) (aF aL (gl59.g 2 rfl) z_len yX (aa (qv av59 4 rfl) ab ae) aM aO))) (aj (aE (i:=9) nd rfl (av59.l 9 rfl) (ar aQ (ar aZ (qv av59 6 rfl) (ar bN ag (ar dO ag (qv av59 7 rfl)))) (aF aL (gl59.g 2 rfl) z_len yX (aa (qv av59 4 rfl) ab ae) aM aO))) (aj (aE (i:=10) nd rfl (av59.l 10 rfl) (bD (aa (aD (aa aq (aa (qv av59 8 rfl) ab ae) ax)) (aa (aD (aa aq (aa (qv av59 8 rfl) (aa (qv av59 9 rfl) ab ae) ae) ax)) (aa (aD (aa aq (aa (qv av59 9 rfl) (aa (qv av59 8 rfl) ab ae) ae) ax)) (aa (aD (aa aq (aa (qv av59 8 rfl) (aa (qv av59 9 rfl) (aa (qv av59 8 rfl) ab ae) ae) ae) ax)) ab bw) bw) bw) bw))) (ai (bM (cm zM zW zX cC (qv av59 4 rfl) (aa (ak aC (qv av59 10 rfl) (ar aQ (ar aZ (qv av59 6 rfl) (ar bN ag (qv av59 7 rfl))) ag) (fun _ _=>rfl)) ab aK)))))))) (ai (aE (i:=5) nd rfl (av59.l 5 rfl) (ar dQ (qv av59 5 rfl) (bD (aa (ar dC (aF aL (gl59.g 2 rfl) z_len yX (aa (qv av59 4 rfl) ab ae) aM aO) ag) ab bh)))))) az) (ai (au (aD (aa (qv av59 4 rfl) (aa (qv av59 5 rfl) ab ae) ae))))))))))),?_⟩
 (try dsimp only [cxOf])
 have bx:Box (Scr K H a ns):=⟨hS⟩;clear hS;walk_at "rd";refine ⟨bx.h,hb,h0,by omega,fun z1 H1 z10 z11 c1 b1=>?_⟩
 have bx1:Box (Scr K H1 a ns):=⟨bx.h.ch hb c1⟩;walk_at "rd";refine ⟨bx1.h,b1,by omega,by omega,fun z2 H2 z20 z21 c2 b2=>?_⟩
 have bx2:Box (Scr K H2 a ns):=⟨bx1.h.ch b1 c2⟩;walk_at "rd";refine ⟨bx2.h,b2,by omega,by omega,fun z3 H3 z30 z31 c3 b3=>?_⟩
 have hS3:=bx2.h.ch b2 c3;obtain ⟨ins,e1⟩:=dX (show 0<=z1 % 4 by omega)
 obtain ⟨kee,e2⟩:=dX (show 0<=z2 % 4 by omega)
 obtain ⟨man,e3⟩:=dX (show 0<=1 + z3 % 18 by omega)
 have bx3:Box (Scr K H3 a ns):=⟨hS3⟩;clear hS3 bx2 bx1 bx;walk_at "rd";refine ⟨bx3.h,b3,by omega,by omega,fun R gl ol gs xs os H4 ns4 hR4 lz4 ho4 oo4 zo4 fg4 fo4=>?_⟩
 have cH3:Ch [b] H H3:=(c1.trans c2).trans c3;have dn4:DN H H4 b gl ol c 1003 gs xs os:=by
  obtain ⟨c',h1,h2,h3⟩:=ns4.at_;exact ⟨cH3.trans ns4.ch,⟨c',h1,by omega,by omega⟩,ns4.gl,ns4.gg,ns4.ok,ho4,oo4⟩
 obtain ⟨fg,gb⟩:=lJ cH3 b3 fg4;obtain ⟨fo,ob⟩:=lJ cH3 b3 fo4;have go:gl≠ol:=fun z=>by
  have h1:man<=gs.length:=lz4.2;have h2:0 < gs.length:=by omega
  obtain ⟨p,ep,_⟩:=ns4.gg.at_ 0 _ (yO h2);have:=ns4.gl;rw [z,ho4] at this;cases this;rw [yY] at ep;obtain ⟨o,_,e⟩:=zt.mp ep;cases e
 have df:DF H b gl ol:=⟨fg,fo,gb,ob,go⟩;obtain ⟨c4,b4,hc4,hd4⟩:=dn4.at_;have bx4:Box (Scr K H4 a ns):=⟨bx3.h.ch b3 ns4.ch⟩;have l1:1<=gs.length:=by omega
 walk_at "rd";refine ⟨bx4.h,b4,by omega,by omega,fun m H5 m0 m1 c5 b5=>?_⟩
 have dn5:=dn4.bump df b4 c5 b5;have lz5:gs.length<=48:=lz4.1;clear dn4 ns4 c5 b5 b4 bx3 bx4 hR4 ho4 oo4 lz4;walk_at "rd";refine bC (fun σ H'=>∃ gs xs os,σ=[some (.ref a),some (.ref b),some (.int (z1 % 4)),some (.int (z2 % 4)),some (.ref gl),some (.ref ol),some (.int m),none,none,none,none]/\DN H H' b gl ol c 1004 gs xs os/\gs.length<=49/\1<=gs.length/\(os.length<=5/\1<=os.length)) ?_ ?_
 ·have gl5:=dn5.gl
  have ol5:=dn5.ol;have lx5:=dn5.gg.len;walk_at "rd";refine ite2 (fun hc=>?_) (fun hc=>?_)
  ·walk_at "rd"
   rename_i T hT;have d6:=(dn5.same (Ch.new hT (.tup [.str "in"]))).push df (g:=.inp) ah trivial;have d7:=d6.out df (o:=gs.length) (by simp)
   have ee:List.map nV os++[V.int (((xs++[V.ref T]).length:Nat) - 1:Int)]=(os++[gs.length]).map nV:=by simp [nV,lx5]
   (try dsimp only)
   rw [ee];exact ⟨d7,by simp; omega,by simp,by simp; omega⟩
  ·exact ⟨gs,xs,os,rfl,dn5,by omega,l1,by omega⟩
 rintro σ H6 ⟨gs,xs,os,rfl,dn6,z6,l6,y6⟩;refine bC (fun σ H'=>∃ ol2 gs xs os u3 u4 u5 u6,σ=[some (.ref a),some (.ref b),some (.int (z1 % 4)),some (.int (z2 % 4)),some (.ref gl),some (.ref ol2),some (.int m),u3,u4,u5,u6]/\DN H H' b gl ol2 c 1004 gs xs os/\gs.length<=55/\(os.length<=6/\1<=os.length)/\ol2≠b) ?_ ?_
 ·walk_at "rd"
  refine ite2 (fun hc=>?_) (fun hc=>?_)
  ·obtain ⟨n6,en6⟩:=dX (show 0<=1 + m / 6 % 6 by omega)
   walk_at "rd";refine dj (fun i σ H'=>∃ gs xs u3 u4 u5 u6,σ=[some (.ref a),some (.ref b),some (.int (z1 % 4)),some (.int (z2 % 4)),some (.ref gl),some (.ref ol),some (.int m),u3,u4,u5,u6]/\DN H H' b gl ol c 1004 gs xs os/\gs.length<=49 + i/\1<=gs.length) ⟨gs,xs,_,_,_,_,rfl,dn6,by omega,l6⟩ ?_ ?_
   ·clear dn6 z6 l6
    rintro i σ H' hi ⟨gs,xs,u3,u4,u5,u6,rfl,dn,zz,l6⟩;have hi6:i < 6:=by omega
    have hgl:=dn.gl;have lx:=dn.gg.len;have lp:0 < (xs.length:Int):=by omega
    obtain ⟨o1,eo1⟩:=dX (zD (m / (11 + (0 + (i:Int)))) (show (xs.length:Int)≠0 by omega))
    obtain ⟨o2,eo2⟩:=dX (zD (m / (101 + 7 * (0 + (i:Int)))) (show (xs.length:Int)≠0 by omega))
    have lo1:o1 < gs.length:=by have:=zE (m / (11 + (0 + (i:Int)))) lp; omega
    have lo2:o2 < gs.length:=by have:=zE (m / (101 + 7 * (0 + (i:Int)))) lp; omega
    obtain ⟨o3,eo3⟩:=dX (show 0<=m / (37 + (0 + (i:Int))) % 4 by omega)
    have lo3:o3 < 4:=by omega
    walk_at "rd";rename_i p1 h1 p2 h2 p3 h3 p4 h4 p5 h5
    dsimp only at h1 h2 h3 h4 h5 ⊢
    simp only [eo1,eo2,eo3] at h1 h2 h3 h4 h5 ⊢;have cc:Ch [] H' (upd (upd (upd (upd (upd H' p1 (.tup [.str "not",.int o1])) p2 (.tup [.str "xor",.int o1,.int o2])) p3 (.tup [.str "and",.int o2,.int o1])) p4 (.tup [.str "pick",.int o1,.int o2,.int o1])) p5 (.lst [.ref p1,.ref p2,.ref p3,.ref p4])):=((((Ch.new h1 _).trans (Ch.new h2 _)).trans (Ch.new h3 _)).trans (Ch.new h4 _)).trans (Ch.new h5 _);have f4:=aA (u:=.lst [.ref p1,.ref p2,.ref p3,.ref p4]) h5 ah;have f3:=aA (u:=.lst [.ref p1,.ref p2,.ref p3,.ref p4]) h5 (aA h4 ah);have f2:=aA (u:=.lst [.ref p1,.ref p2,.ref p3,.ref p4]) h5 (aA h4 (aA h3 ah));have f1:=aA (u:=.lst [.ref p1,.ref p2,.ref p3,.ref p4]) h5 (aA h4 (aA h3 (aA h2 ah)));have dc:=dn.same cc;have hgc:=dc.gl;generalize upd (upd (upd (upd (upd H' p1 (.tup [.str "not",.int o1])) p2 (.tup [.str "xor",.int o1,.int o2])) p3 (.tup [.str "and",.int o2,.int o1])) p4 (.tup [.str "pick",.int o1,.int o2,.int o1])) p5 (.lst [.ref p1,.ref p2,.ref p3,.ref p4])=HC at f1 f2 f3 f4 dc hgc ⊢;clear h1 h2 h3 h4 h5 cc;rcases mk4 lo3 with rfl | rfl | rfl | rfl
    ·walk_at "rd"
     exact ⟨dc.push df (g:=.not o1) f1 lo1,by simp; omega,by simp⟩
    ·walk_at "rd"
     exact ⟨dc.push df (g:=.xor o1 o2) f2 ⟨lo1,lo2⟩,by simp; omega,by simp⟩
    ·walk_at "rd"
     exact ⟨dc.push df (g:=.and o2 o1) f3 ⟨lo2,lo1⟩,by simp; omega,by simp⟩
    ·walk_at "rd"
     exact ⟨dc.push df (g:=.pick o1 o2 o1) f4 ⟨lo1,lo2,lo1⟩,by simp; omega,by simp⟩
   ·rintro σ H' ⟨gs,xs,u3,u4,u5,u6,rfl,dn,zz,l6⟩
    have hgl:=dn.gl;have hol:=dn.ol;have lx:=dn.gg.len;walk_at "rd";rename_i p1 hp1 p2 hp2;have c9:Ch [] H' (upd (upd H' p1 (.lst [.int ((xs.length:Int) - 1)])) p2 (.lst (List.map nV os++[.int ((xs.length:Int) - 1)]))):=(Ch.new hp1 _).trans (Ch.new hp2 _);have dx:=dn.same c9;have e8:(xs.length:Int) - 1=((gs.length - 1:Nat):Int):=by omega
    exact ⟨⟨dx.ch,dx.at_,dx.gl,dx.gg,dx.ok,(by rw [ah]; (try dsimp only); rw [e8]; simp [nV]:_=some (HO.lst ((os++[gs.length - 1]).map nV))),fun o m=>by
     rcases zR.mp m with m | m
     ·exact dx.oo o m
     ·rw [zI.mp m]; omega⟩,by omega,by simp; omega,by obtain ⟨c8,b8,_⟩:=dn.at_; exact (aY (aA hp1 b8) hp2).symm⟩
  ·exact ⟨ol,gs,xs,os,_,_,_,_,rfl,dn6,by omega,by omega,ob⟩
 rintro σ H7 ⟨ol2,gs,xs,os,u3,u4,u5,u6,rfl,dn7,z7,y7,ob2⟩;walk_at "rd";rename_i R hR;obtain ⟨c',h1,h2,h3⟩:=dn7.at_;have d8:=dn7.same (Ch.new hR (.tup [.ref gl,.ref ol2]));exact q R gl ol2 gs xs os _ ⟨d8.ch,by obtain ⟨c9,a1,a2,a3⟩:=d8.at_; exact ⟨c9,a1,a2,by omega⟩,d8.gl,d8.gg,d8.ok,d8.ol,d8.oo⟩ ah (by omega) (by omega) ⟨fg,ob2⟩
end
end

section
def Gt.src:Gt->Bool
 | .inp=>true
 | .keep _ _=>true
 | _=>false
def Gt.wd:Gt->Str
 | .inp => "in"
 | .zero => "zero"
 | .one => "one"
 | .keep _ _ => "keep"
 | .not _ => "not"
 | .and _ _ => "and"
 | .or _ _ => "or"
 | .xor _ _ => "xor"
 | .pick _ _ _ => "pick"
def Gt.ks:Gt->List Key
 | .inp=>[.inr "in"]
 | .zero=>[.inr "zero"]
 | .one=>[.inr "one"]
 | .keep f a=>[.inr "keep",.inl f,.inl a]
 | .not a=>[.inr "not",.inl a]
 | .and a b=>[.inr "and",.inl a,.inl b]
 | .or a b=>[.inr "or",.inl a,.inl b]
 | .xor a b=>[.inr "xor",.inl a,.inl b]
 | .pick a b c=>[.inr "pick",.inl a,.inl b,.inl c]
theorem Gt.vs_ks (g:Gt):g.vs=g.ks.map kV:=by cases g <;> rfl
theorem Gt.ks_wd (g:Gt):g.ks.head?=some (.inr g.wd):=by cases g <;> rfl
theorem Gt.wd_inj (e:g.wd=h.wd):g.ctorIdx=h.ctorIdx:=by
 cases g <;> cases h <;> first | rfl | (exfalso; revert e; simp only [Gt.wd]; decide +kernel)
theorem Gt.ks_inj (e:g.ks=h.ks):g=h:=by
 have e1:g.wd=h.wd:=by
  have:=za List.head? e;rw [Gt.ks_wd,Gt.ks_wd] at this;exact Sum.inr.inj (zp this)
 have e2:=Gt.wd_inj e1;cases g <;> cases h <;> first | rfl | (exfalso; revert e2; simp [Gt.ctorIdx]; done) | (simp only [Gt.ks,List.cons.injEq,Sum.inl.injEq,Int.natCast_inj,and_true,true_and] at e; simp [e])
theorem Gt.vs_inj (e:g.vs=h.vs):g=h:=by
 refine Gt.ks_inj ?_;rw [Gt.vs_ks,Gt.vs_ks] at e;refine List.map_inj_right (f:=kV) (fun a b z=>?_) |>.mp e
 cases a <;> cases b <;> simp [kV] at z <;> simp [z]
theorem Gt.vs_sca (g:Gt):ScaL g.vs:=by
 refine ⟨fun z hz=>?_⟩
 rw [Gt.vs_ks] at hz;obtain ⟨k,_,rfl⟩:=Aa.mp hz;exact tZ k
def Gt.nf:Gt->Gt
 | .and a b=>.and (min a b) (max a b)
 | .or a b=>.or (min a b) (max a b)
 | .xor a b=>.xor (min a b) (max a b)
 | g=>g
def fiP (g h:Gt):Bool:=!h.src && decide (h.nf=g.nf)
def findI (gs:List Gt) (g:Gt):Option Nat:=gs.findIdx? (fiP g)
theorem iP (h:findI gs g=some i):∃ h',gs[i]?=some h'/\h'.src=false/\h'.nf=g.nf:=by
 obtain ⟨hi,hp,_⟩:=List.findIdx?_eq_some_iff_getElem.mp h;simp only [fiP,yU,Bool.not_eq_true',zC] at hp;exact ⟨_,yO hi,hp.1,hp.2⟩
theorem lK {gs:List Gt} (h:findI gs g=none) {i:Nat}{h':Gt} (e:gs[i]?=some h') (hs:h'.src=false):h'.nf≠g.nf:=by
 intro z;have:=List.findIdx?_eq_none_iff.mp h h' (zc e);simp [fiP,hs,z] at this
theorem lL (gs:List Gt) (h g:Gt):findI (gs++[h]) g=(findI gs g).or (if fiP g h then some gs.length else none):=by
 unfold findI;rw [List.findIdx?_append]
 congr 1
 cases e:fiP g h <;> simp [List.findIdx?_cons,e]
theorem u9 (e:g.nf=h.nf):findI gs g=findI gs h:=by
 unfold findI
 congr 1
 funext x
 simp [fiP,e]
def like (gs:List Gt) (g:Gt):List Gt × Nat:=match findI gs g with
 | some i=>(gs,i)
 | none=>(gs++[g],gs.length)
abbrev Rs:=List Gt × Nat × Str
def lk (gs:List Gt) (g:Gt) (y:Str):Rs:=((like gs g).1,(like gs g).2,y)
def isZ (gs:List Gt) (n:Nat):Bool:=decide (gs[n]?=some .zero)
def isO (gs:List Gt) (n:Nat):Bool:=decide (gs[n]?=some .one)
def opsd (gs:List Gt) (a b:Nat):Bool:=decide (gs[a]?=some (.not b)) || decide (gs[b]?=some (.not a))
def opp (gs:List Gt) (n:Nat):List Gt × Nat:=match gs[n]? with
 | some (.not a)=>(gs,a)
 | _=>like gs (.not n)
def plain (gs:List Gt) (g:Gt):Rs:=((like gs g).1,(like gs g).2,if (like gs g).1[(like gs g).2]?=some g then "same" else "turned")
def notP (gs:List Gt) (x:Nat):Rs :=
 if isZ gs x then lk gs .one "one" else if isO gs x then lk gs .zero "zero" else match gs[x]? with
  | some (.not a)=>(gs,a, "inner")
  | _=>plain gs (.not x)
def andP (gs:List Gt) (x y:Nat):Rs :=
 if isO gs y || decide (x=y) then (gs,x, "first") else if isO gs x then (gs,y, "second") else if isZ gs x || (isZ gs y || opsd gs x y) then lk gs .zero "zero" else plain gs (.and x y)
def orP (gs:List Gt) (x y:Nat):Rs :=
 if isZ gs y || decide (x=y) then (gs,x, "first") else if isZ gs x then (gs,y, "second") else if isO gs x || (isO gs y || opsd gs x y) then lk gs .one "one" else plain gs (.or x y)
def xorP (gs:List Gt) (x y:Nat):Rs :=
 if isZ gs y then (gs,x, "first") else if isZ gs x then (gs,y, "second") else if x=y then lk gs .zero "zero" else if opsd gs x y then lk gs .one "one"
 else if isO gs y then ((opp gs x).1,(opp gs x).2, "not") else if isO gs x then ((opp gs y).1,(opp gs y).2, "not") else plain gs (.xor x y)
def pickP (gs:List Gt) (x y z:Nat):Rs :=
 if isO gs x || decide (y=z) then (gs,y, "second") else if isZ gs x then (gs,z, "third") else if isO gs y && isZ gs z then (gs,x, "first") else if isZ gs y && isO gs z then ((opp gs x).1,(opp gs x).2, "not") else plain gs (.pick x y z)
def gpair (gs:List Gt) (ρ:Nat->Nat):Gt->Rs
 | .not a=>notP gs (ρ a)
 | .and a b=>andP gs (ρ a) (ρ b)
 | .or a b=>orP gs (ρ a) (ρ b)
 | .xor a b=>xorP gs (ρ a) (ρ b)
 | .pick a b c=>pickP gs (ρ a) (ρ b) (ρ c)
 | g=>plain gs g
structure Cn (gs:List Gt) (a:Nat):Prop where
 of:gs[a]?=some .zero\/gs[a]?=some .one
def FW (gs:List Gt):Gt->Prop
 | .not a=>¬ Cn gs a/\∀ b,gs[a]?≠some (.not b)
 | .and a b=>¬ Cn gs a/\¬ Cn gs b/\a≠b
 | .or a b=>¬ Cn gs a/\¬ Cn gs b/\a≠b
 | .xor a b=>¬ Cn gs a/\¬ Cn gs b/\a≠b
 | .pick a b c=>¬ Cn gs a/\¬ (Cn gs b/\Cn gs c)/\b≠c
 | _=>True
structure WF (gs:List Gt):Prop where
 ok:∀ (i:Nat) (g:Gt),gs[i]?=some g->g.src=false->g.ok i 0/\FW gs g
 un:∀ (i j:Nat) (g h:Gt),gs[i]?=some g->gs[j]?=some h->g.src=false->h.src=false->g.nf=h.nf->i=j
theorem Cn.of_app{a:Nat} (ha:a < gs.length):Cn (gs++[h]) a↔Cn gs a:=by
 constructor <;> rintro ⟨e⟩ <;> refine ⟨?_⟩
 ·rwa [zb ha] at e
 ·rwa [zb ha]
theorem FW.app{i n:Nat} (hg:FW gs g) (ok:g.ok i n) (hs:g.src=false) (hi:i<=gs.length):FW (gs++[h]) g:=by
 cases g <;> simp only [FW,Gt.ok,Gt.src] at *
 case not a=>rw [Cn.of_app (by omega),zb (by omega)]; exact hg
 case and a b=>rw [Cn.of_app (by omega),Cn.of_app (by omega)]; exact hg
 case or a b=>rw [Cn.of_app (by omega),Cn.of_app (by omega)]; exact hg
 case xor a b=>rw [Cn.of_app (by omega),Cn.of_app (by omega)]; exact hg
 case pick a b c=>rw [Cn.of_app (by omega),Cn.of_app (by omega),Cn.of_app (by omega)]; exact hg
theorem dM (e:(gs++[h])[i]?=some g):(i < gs.length/\gs[i]?=some g)\/(i=gs.length/\g=h):=by
 by_cases hi:i < gs.length
 ·rw [zb hi] at e; exact .inl ⟨hi,e⟩
 ·rw [zw (by omega)] at e
  have hi0:i - gs.length=0:=by
   rcases AW (i - gs.length) with z | z
   ·exact z
   ·rw [Ad (by simp; omega)] at e; cases e
  rw [hi0] at e;exact .inr ⟨by omega,by simpa using e.symm⟩
theorem WF.lay (w:WF gs) (hs:h.src=true):WF (gs++[h]):=by
 constructor
 ·intro i g e s
  rcases dM e with ⟨hi,e⟩ | ⟨_,rfl⟩
  ·obtain ⟨a,b⟩:=w.ok i g e s
   exact ⟨a,b.app a s (by omega)⟩
  ·rw [hs] at s; cases s
 ·intro i j g g' e e' s s' n
  rcases dM e with ⟨hi,e⟩ | ⟨_,rfl⟩
  ·rcases dM e' with ⟨hj,e'⟩ | ⟨_,rfl⟩
   ·exact w.un i j g g' e e' s s' n
   ·rw [hs] at s'; cases s'
  ·rw [hs] at s; cases s
theorem Gt.ok_any{n:Nat} (h:g.ok i n) (hs:g.src=false):g.ok i m:=by
 cases g <;> simp only [Gt.ok,Gt.src] at * <;> first | trivial | omega | (cases hs)
theorem da{n:Nat} (h:g.ok i n) (hs:g.src=false):∀ a∈g.feeds,a < i:=by
 intro a ha;cases g <;> simp only [Gt.ok,Gt.src,Gt.feeds,yZ,ze,zh,zI] at * <;> first | omega | (cases hs)
structure May (gs:List Gt) (g:Gt):Prop where
 s:g.src=false
 ok:g.ok gs.length 0
 fw:FW gs g
theorem WF.like (w:WF gs) (m:May gs h):WF (like gs h).1/\(like gs h).2 < (like gs h).1.length/\gs.length<=(like gs h).1.length:=by
 unfold B17.like;cases e:findI gs h with
 | some i =>
  obtain ⟨h',e',_⟩:=iP e;exact ⟨w,(yR.mp e').1,yP _⟩
 | none =>
  refine ⟨⟨?_,?_⟩,by simp,by simp⟩
  ·intro i g e1 s
   rcases dM e1 with ⟨hi,e1⟩ | ⟨rfl,rfl⟩
   ·obtain ⟨a,b⟩:=w.ok i g e1 s
    exact ⟨a,b.app a s (by omega)⟩
   ·exact ⟨m.ok,m.fw.app m.ok m.s (yP _)⟩
  ·intro i j g g' e1 e2 s s' n
   rcases dM e1 with ⟨hi,d1⟩ | ⟨z1,z2⟩
   ·rcases dM e2 with ⟨hj,d2⟩ | ⟨z3,z4⟩
    ·exact w.un i j g g' d1 d2 s s' n
    ·exact absurd (z4 ▸ n) (lK e d1 s)
   ·rcases dM e2 with ⟨hj,d2⟩ | ⟨z3,z4⟩
    ·exact absurd (z2 ▸ n).symm (lK e d2 s')
    ·rw [z1,z3]
def Ext (gs:List Gt) (r:Rs):Prop:=(r.1=gs/\r.2.1 < gs.length)\/∃ h,May gs h/\r.1=(like gs h).1/\r.2.1=(like gs h).2
theorem gJ (gs:List Gt):May gs .zero:=⟨rfl,trivial,trivial⟩
theorem gK (gs:List Gt):May gs .one:=⟨rfl,trivial,trivial⟩
theorem dA{x:Nat} (h1:¬ isZ gs x=true) (h2:¬ isO gs x=true):¬ Cn gs x:=by
 rintro ⟨z | z⟩
 ·exact h1 (y8 z)
 ·exact h2 (y8 z)
theorem lM (w:WF gs) {x y:Nat} (h1:¬ isZ gs x=true) (h2:isO gs y=true) (n:x≠y):¬ Cn gs x:=by
 rintro ⟨z | z⟩
 ·exact h1 (y8 z)
 ·exact n (w.un _ _ _ _ z (zL h2) rfl rfl rfl)
theorem lN (w:WF gs) {x a:Nat} (h:gs[x]?=some (.not a)):a < gs.length:=by
 have h1:=(w.ok x _ h rfl).1;have h2:=(yR.mp h).1;exact Ar h1 h2
theorem iQ (w:WF gs) {x:Nat} (hx:x < gs.length) (hc:¬ Cn gs x) (y:Str):Ext gs ((opp gs x).1,(opp gs x).2,y):=by
 unfold opp
 split
 ·rename_i a e
  exact .inl ⟨rfl,lN w e⟩
 ·rename_i e
  exact .inr ⟨.not x,⟨rfl,hx,hc,e⟩,rfl,rfl⟩
theorem vb (w:WF gs) {x:Nat} (hx:x < gs.length):Ext gs (notP gs x):=by
 unfold notP
 split
 ·exact .inr ⟨_,gK gs,rfl,rfl⟩
 rename_i h1
 split
 ·exact .inr ⟨_,gJ gs,rfl,rfl⟩
 rename_i h2
 split
 ·rename_i a e
  exact .inl ⟨rfl,lN w e⟩
 ·rename_i e
  exact .inr ⟨.not x,⟨rfl,hx,dA h1 h2,e⟩,rfl,rfl⟩
theorem vc (w:WF gs) {x y:Nat} (hx:x < gs.length) (hy:y < gs.length):Ext gs (andP gs x y):=by
 unfold andP
 split
 ·exact .inl ⟨rfl,hx⟩
 rename_i h1
 split
 ·exact .inl ⟨rfl,hy⟩
 rename_i h2
 split
 ·exact .inr ⟨_,gJ gs,rfl,rfl⟩
 rename_i h3;simp only [zO,zC,not_or] at h1 h3;exact .inr ⟨.and x y,⟨rfl,⟨hx,hy⟩,dA h3.1 h2,dA h3.2.1 h1.1,h1.2⟩,rfl,rfl⟩
theorem vd (w:WF gs) {x y:Nat} (hx:x < gs.length) (hy:y < gs.length):Ext gs (orP gs x y):=by
 unfold orP
 split
 ·exact .inl ⟨rfl,hx⟩
 rename_i h1
 split
 ·exact .inl ⟨rfl,hy⟩
 rename_i h2
 split
 ·exact .inr ⟨_,gK gs,rfl,rfl⟩
 rename_i h3;simp only [zO,zC,not_or] at h1 h3;exact .inr ⟨.or x y,⟨rfl,⟨hx,hy⟩,dA h2 h3.1,dA h1.1 h3.2.1,h1.2⟩,rfl,rfl⟩
theorem ve (w:WF gs) {x y:Nat} (hx:x < gs.length) (hy:y < gs.length):Ext gs (xorP gs x y):=by
 unfold xorP
 split
 ·exact .inl ⟨rfl,hx⟩
 rename_i h1
 split
 ·exact .inl ⟨rfl,hy⟩
 rename_i h2
 split
 ·exact .inr ⟨_,gJ gs,rfl,rfl⟩
 rename_i h3
 split
 ·exact .inr ⟨_,gK gs,rfl,rfl⟩
 split
 ·rename_i h5
  exact iQ w hx (lM w h2 h5 h3) _
 rename_i h5
 split
 ·rename_i h6
  exact iQ w hy (lM w h1 h6 (yV h3)) _
 rename_i h6;exact .inr ⟨.xor x y,⟨rfl,⟨hx,hy⟩,dA h2 h6,dA h1 h5,h3⟩,rfl,rfl⟩
theorem vf (w:WF gs) {x y z:Nat} (hx:x < gs.length) (hy:y < gs.length) (hz:z < gs.length):Ext gs (pickP gs x y z):=by
 unfold pickP
 split
 ·exact .inl ⟨rfl,hy⟩
 rename_i h1
 split
 ·exact .inl ⟨rfl,hz⟩
 rename_i h2;simp only [zO,zC,not_or] at h1
 split
 ·exact .inl ⟨rfl,hx⟩
 rename_i h3
 split
 ·exact iQ w hx (dA h2 h1.1) _
 rename_i h4;refine .inr ⟨.pick x y z,⟨rfl,⟨hx,hy,hz⟩,dA h2 h1.1,?_,h1.2⟩,rfl,rfl⟩;rintro ⟨⟨a | a⟩,⟨b | b⟩⟩
 ·exact h1.2 (w.un _ _ _ _ a b rfl rfl rfl)
 ·exact h4 (by rw [yU]; exact ⟨y8 a,y8 b⟩)
 ·exact h3 (by rw [yU]; exact ⟨y8 a,y8 b⟩)
 ·exact h1.2 (w.un _ _ _ _ a b rfl rfl rfl)
theorem vg (w:WF gs) (hs:g.src=false) (hf:∀ a∈g.feeds,ρ a < gs.length):Ext gs (gpair gs ρ g):=by
 cases g with
 | inp=>cases hs
 | keep _ _=>cases hs
 | zero=>exact .inr ⟨_,gJ gs,rfl,rfl⟩
 | one=>exact .inr ⟨_,gK gs,rfl,rfl⟩
 | not a=>exact vb w (hf a (by simp [Gt.feeds]))
 | and a b=>exact vc w (hf a (by simp [Gt.feeds])) (hf b (by simp [Gt.feeds]))
 | or a b=>exact vd w (hf a (by simp [Gt.feeds])) (hf b (by simp [Gt.feeds]))
 | xor a b=>exact ve w (hf a (by simp [Gt.feeds])) (hf b (by simp [Gt.feeds]))
 | pick a b c=>exact vf w (hf a (by simp [Gt.feeds])) (hf b (by simp [Gt.feeds])) (hf c (by simp [Gt.feeds]))
theorem Ext.wf (w:WF gs) (h:Ext gs r):WF r.1/\r.2.1 < r.1.length/\gs.length<=r.1.length:=by
 rcases h with ⟨e,h⟩ | ⟨g,m,e,e'⟩
 ·rw [e]; exact ⟨w,h,yP _⟩
 ·rw [e,e']; exact w.like m
theorem Ext.len (h:Ext gs r):r.1.length<=gs.length + 1:=by
 rcases h with ⟨e,h⟩ | ⟨g,m,e,e'⟩
 ·rw [e]; omega
 ·rw [e]
  unfold like
  split <;> simp
end

section
def fldsS (gl d:Addr):List (Str × V):=[("gates",.ref gl),("numbers",.ref d)]
theorem fs_g (gl d:Addr):List.lookup (Str.ofString "gates") (fldsS gl d)=some (.ref gl):=rfl
theorem fs_n (gl d:Addr):List.lookup (Str.ofString "numbers") (fldsS gl d)=some (.ref d):=rfl
structure FsN (gl d:Addr):Prop where
 l:List.lookup (Str.ofString "lay") (fldsS gl d)=none
 k:List.lookup (Str.ofString "gate_like") (fldsS gl d)=none
 z:List.lookup (Str.ofString "zero") (fldsS gl d)=none
 o:List.lookup (Str.ofString "one") (fldsS gl d)=none
 p:List.lookup (Str.ofString "opposite") (fldsS gl d)=none
 iz:List.lookup (Str.ofString "is_zero") (fldsS gl d)=none
 io:List.lookup (Str.ofString "is_one") (fldsS gl d)=none
 ao:List.lookup (Str.ofString "are_opposed") (fldsS gl d)=none
theorem fsn (gl d:Addr):FsN gl d:=⟨rfl,rfl,rfl,rfl,rfl,rfl,rfl,rfl⟩
def Gt.mk (g:Gt):List Key:=g.nf.ks
structure Num (gs:List Gt) (kvs:List (List Key × V)):Prop where
 len:kvs.length<=gs.length
 val:∀ g:Gt,valV kvs g.mk=(findI gs g).map nV
theorem Num.nil:Num [] []:=⟨yP _,fun g=>rfl⟩
theorem Num.lay{kvs:List (List Key × V)} (n:Num gs kvs) (hs:h.src=true):Num (gs++[h]) kvs:=by
 refine ⟨by have:=n.len; simp; omega,fun g=>?_⟩
 have:fiP g h=false:=by simp [fiP,hs]
 rw [lL,n.val,this];simp
theorem Num.put{kvs:List (List Key × V)} (n:Num gs kvs) (hs:h.src=false) (hf:findI gs h=none):Num (gs++[h]) (putK kvs h.mk (nV gs.length)):=by
 refine ⟨zy (eA _ _ _) (by have:=n.len; simp; omega),fun g=>?_⟩
 rw [fW,lL]
 by_cases e:g.mk=h.mk
 ·have e2:g.nf=h.nf:=Gt.ks_inj e
  have:fiP g h=true:=by simp [fiP,hs,e2]
  rw [yN e,u9 e2,hf,this];simp
 ·have:fiP g h=false:=by
   simp only [fiP,Bool.and_eq_false_iff];exact .inr (zv fun z=>e (by unfold Gt.mk; rw [z]))
  rw [yM e,n.val,this];simp
structure ShAt (C:Addr) (H:Hp) (y gl d:Addr) (gs:List Gt):Prop where
 ob:∃ dy,H y=some (.ins C dy (fldsS gl d))
 g:∃ xs,H gl=some (.lst xs)/\Gs H gs xs
 n:∃ kvs,H d=some (.dT kvs)/\Num gs kvs
theorem ShAt.ch{H:Hp}{y d:Addr} (r:ShAt C H y gl d gs) (c:Ch [] H H'):ShAt C H' y gl d gs :=
 ⟨r.ob.imp fun _ h=>c.get h (by simp),let ⟨xs,a,b⟩:=r.g; ⟨xs,c.get a (by simp),b.tu (Tu.same c)⟩,let ⟨k,a,b⟩:=r.n; ⟨k,c.get a (by simp),b⟩⟩
theorem Ch.mono {W W':List Addr} (c:Ch W H H') (h:∀ x∈W,x∈W'):Ch W' H H':=fun a o e n=>c a o e fun z=>n (h a z)
theorem ShAt.lay{y d p:Addr}{xs:List V} (r:ShAt C H y gl d gs) (hg:H gl=some (.lst xs)) (hp:H p=some (.tup g.vs)) (hs:g.src=true):ShAt C (upd H gl (.lst (xs++[.ref p]))) y gl d (gs++[g]):=by
 obtain ⟨⟨dy,hy⟩,⟨xs2,hg2,gg⟩,⟨kvs,hd,n⟩⟩:=r;rw [hg] at hg2;cases hg2;exact ⟨⟨dy,aJ (aV hy hg (by intro z; cases z)) hy⟩,⟨_,ah,gg.push hg hp⟩,⟨kvs,aJ (aV hd hg (by intro z; cases z)) hd,n.lay hs⟩⟩
theorem ShAt.put{y d p:Addr}{xs:List V}{kvs:List (List Key × V)} (r:ShAt C H y gl d gs) (hg:H gl=some (.lst xs)) (hd:H d=some (.dT kvs)) (hp:H p=some (.tup g.vs)) (hs:g.src=false) (hf:findI gs g=none) :
  ShAt C (upd (upd H gl (.lst (xs++[.ref p]))) d (.dT (putK kvs g.mk (nV gs.length)))) y gl d (gs++[g]):=by
 obtain ⟨⟨dy,hy⟩,⟨xs2,hg2,gg⟩,⟨kvs2,hd2,n⟩⟩:=r;rw [hg] at hg2;cases hg2;rw [hd] at hd2;cases hd2;have n1:=aV hy hg (by intro z; cases z)
 have n2:=aV hy hd (by intro z; cases z)
 have n3:=aV hg hd (by intro z; cases z)
 exact ⟨⟨dy,aJ n2 (aJ n1 hy)⟩,⟨_,aJ n3 ah,(gg.push hg hp).tu (Tu.ch Ch.put (aJ n3.symm hd) (fun _ z=>by cases z))⟩,⟨_,ah,n.put hs hf⟩⟩
theorem ShAt.at {C:Addr}{y d:Addr}{gs:List Gt} (r:ShAt C H y gl d gs) (h:gs[n]?=some g):∃ xs p,H gl=some (.lst xs)/\atI xs (n:Int)=some (.ref p)/\H p=some (.tup g.vs)/\n < xs.length:=by
 obtain ⟨xs,hg,gg⟩:=r.g;obtain ⟨p,ep,hp⟩:=gg.at_ n g h;exact ⟨xs,p,hg,bA ep,hp,(yR.mp ep).1⟩
theorem lO (g h:Gt):decide (g.vs=h.vs)=decide (g=h):=by
 by_cases e:g=h
 ·subst e; simp
 ·rw [zv e,zv fun z=>e (Gt.vs_inj z)]
theorem eJ (g:Gt):∃ rs:List V,g.vs=.str g.wd :: rs:=by cases g <;> exact ⟨_,rfl⟩
local macro_rules | `(tactic| walk_at "user")=>`(tactic| first
 | (apply ShAt.ch; (focus with_reducible assumption); (focus walk_at "ch"))
 | exact Gt.vs_sca _
 | (apply Or.inr; refine (‹∀ H:Hp,SqT _ H _ _›) _)
 | (apply isD_t; walk_at "get")
 | (apply t9; (focus walk_at "get"); (focus walk_at "get"); (focus with_reducible assumption))
 | (apply ua; (focus walk_at "get"); (focus walk_at "get"); (focus with_reducible assumption))
 | (apply DPut.t; (focus walk_at "get"); (focus walk_at "get"); (focus walk_at "arith")))
section
variable {P:Program}{w:World}{K:PySem.W.Frag}{mg:Str->Option Value}{base:Heap}{f:Addr}{fd:FuncData}{k:Nat}
theorem vh:Nd "TWO_SIDED" := ∅
theorem av43m0:AF (defScope (inClass (top 43) 0)) ["self"]:=⟨∅⟩
def spShr (C:Addr):Sp:=fun vs H Q _=>∃ (y dy:Addr),vs=[.ref y]/\H y=some (.ins C dy [])/\∀ gl d H',Ch [y] H H'->H gl=none->H d=none->ShAt C H' y gl d []->Q .non H'
theorem scShr:FnScope ["self"] ["self"] (defScope (inClass (top 43) 0)):=⟨rfl,rfl,rfl,∅,rfl,∅,∅⟩
theorem vi (F:Fun K "__init__" "Shrinker.__init__" (inClass (top 43) 0) f fd) (cl:Cls K C) (nG:NoAttr K C "gates") (nN:NoAttr K C "numbers"):FnOk P w K mg base CX0 (k + 1) f fd ["self"] (spShr C):=by
 have nd:=scShr.nd;refine F.ok scShr (fun vs H Q E h=>by obtain ⟨y,dy,rfl,_⟩:=h; rfl) (fun cdv A outer s H vs Q E hr h=>?_)
 obtain ⟨y,dy,rfl,hy,q⟩:=h;refine ⟨_,(Pr.h (aj (cR (qv av43m0 0 rfl) (bD ab) rfl) (ai (cR (qv av43m0 0 rfl) t6 rfl)))),?_⟩
 (try dsimp only [cxOf])
 walk_at "rd";rename_i gl hgl cd hcd;have ngy:gl≠y:=(aY hy hgl).symm;have ncy:cd≠y:=fun z=>by rw [z,ah] at hcd; cases hcd
 have fcd:H cd=none:=by
  rw [aR ncy] at hcd;exact chFree (Ch.new hgl _) hcd
 exact q gl cd _ ((((Ch.new hgl _).wk.trans Ch.put).trans (Ch.new hcd _)).trans Ch.put) hgl fcd ⟨⟨dy,ah⟩,⟨[],aJ ngy (aA hcd (aJ ngy ah)),rfl,fun i g e=>by simp at e⟩,⟨[],aJ ncy ah,Num.nil⟩⟩
theorem av43m1:AF (defScope (inClass (top 43) 1)) ["self", "gate"]:=⟨∅⟩
theorem gl43m1:AG (defScope (inClass (top 43) 1)) ["len"]:=⟨∅⟩
def spLay (C:Addr):Sp:=fun vs H Q _=>∃ (y p gl d dy:Addr) (xs:List V),vs=[.ref y,.ref p]/\H y=some (.ins C dy (fldsS gl d))/\H gl=some (.lst xs)/\xs.length<=900/\Q (.int (xs.length:Int)) (upd H gl (.lst (xs++[.ref p])))
theorem scLay:FnScope ["self", "gate"] ["self", "gate"] (defScope (inClass (top 43) 1)):=⟨rfl,rfl,rfl,∅,rfl,∅,∅⟩
theorem vj (F:Fun K "lay" "Shrinker.lay" (inClass (top 43) 1) f fd) (cl:Cls K C) (nG:NoAttr K C "gates") (z_len:mg "len" = none):FnOk P w K mg base CX0 (k + 1) f fd ["self", "gate"] (spLay C):=by
 have nd:=scLay.nd;refine F.ok scLay (fun vs H Q E h=>by obtain ⟨y,p,gl,d,dy,xs,rfl,_⟩:=h; rfl) (fun cdv A outer s0 H vs Q E hr h=>?_)
 obtain ⟨y,p,gl,d,dy,xs,rfl,hy,hg,sz,q⟩:=h;refine ⟨_,(Pr.h (aj (bM (cm zM zW zX cC (aT (qv av43m1 0 rfl) rfl) (aa (qv av43m1 1 rfl) ab ae))) (ai (au (ar dC (aF aL (gl43m1.g 0 rfl) z_len yX (aa (aT (qv av43m1 0 rfl) rfl) ab bH) aM aO) ag))))),?_⟩
 (try dsimp only [cxOf])
 have f1:=fs_g gl d;have nyg:y≠gl:=aV hy hg (by intro z; cases z)
 walk_at "rd";refine Eq.mp (za (fun z=>Q (.int z) _) ?_) q
 rw [zk];simp
theorem av43m2:AF (defScope (inClass (top 43) 2)) ["self", "gate", "mark"]:=⟨∅⟩
theorem gl43m2:AG (defScope (inClass (top 43) 2)) ["TWO_SIDED", "max", "min"]:=⟨∅⟩
def spLike (C:Addr):Sp:=fun vs H Q _=>∃ (y p gl d:Addr) (gs:List Gt) (g:Gt),vs=[.ref y,.ref p]/\ShAt C H y gl d gs/\H p=some (.tup g.vs)/\g.src=false/\gs.length<=900/\∀ H',Ch [gl,d] H H'->ShAt C H' y gl d (like gs g).1->Q (nV (like gs g).2) H'
theorem scLike:FnScope ["self", "gate", "mark"] ["self", "gate"] (defScope (inClass (top 43) 2)):=⟨rfl,rfl,rfl,∅,rfl,∅,∅⟩
theorem vm {T2:Addr} (F:Fun K "gate_like" "Shrinker.gate_like" (inClass (top 43) 2) f fd) (cl:Cls K C) (nN:NoAttr K C "numbers") (MShrinker_lay:MethOk P w K mg base CX0 k C "lay" ["self", "gate"] (spLay C))
  (m_TWO_SIDED:mg "TWO_SIDED" = some (.ref T2)) (hT2:∀ H,SqT K H T2 [.str "and",.str "or",.str "xor"]) (z_min:mg "min" = none) (z_max:mg "max" = none):FnOk P w K mg base CX0 (k + 1) f fd ["self", "gate"] (spLike C):=by
 have nd:=scLike.nd;refine F.ok scLike (fun vs H Q E h=>by obtain ⟨y,p,gl,d,gs,g,rfl,_⟩:=h; rfl) (fun cdv A outer s0 H vs Q E hr h=>?_)
 obtain ⟨y,p,gl,d,gs,g,rfl,r,hp,hs,sz,q⟩:=h;have hu:=eV hr;refine ⟨_,(Pr.h (aj (aE (i:=2) nd rfl (av43m2.l 2 rfl) (qv av43m2 1 rfl)) (bG (aw (ay ig (ak aH (qv av43m2 1 rfl) ag (fun _ _=>rfl)) (eX (v:=.ref _) (gl43m2.g 0 rfl) m_TWO_SIDED rfl vh) rfl) (ai (aE (i:=2) nd rfl (av43m2.l 2 rfl) (aD (aa (ak aH (qv av43m2 1 rfl) ag (fun _ _=>rfl)) (aa (aF (uh rfl) (gl43m2.g 2 rfl) z_min iM (aa (gc fU (qv av43m2 1 rfl) (gh ag) gf) ab aK) iN iO) (aa (aF (ui rfl) (gl43m2.g 1 rfl) z_max lG (aa (gc fU (qv av43m2 1 rfl) (gh ag) gf) ab aK) lH lI) ab bb) bb) aK)))) az) (bG (aw (iC hu (qv av43m2 2 rfl) (aT (qv av43m2 0 rfl) rfl)) (ai (gw hu (aT (qv av43m2 0 rfl) rfl) (qv av43m2 2 rfl) (aW (qv av43m2 0 rfl) MShrinker_lay hr pass0 (aa (qv av43m2 1 rfl) ab ae)) rfl)) az) (ai (au (gv hu (aT (qv av43m2 0 rfl) rfl) (qv av43m2 2 rfl) (fun _ _=>rfl)))))))),?_⟩
 (try dsimp only [cxOf])
 walk_at "rd";refine bC (fun σ H'=>∃ m,σ=[some (.ref y),some (.ref p),some (.ref m)]/\Ch [] H H'/\H' m=some (.tup (g.mk.map kV))) ?_ ?_
 ·cases g with
  | inp=>cases hs
  | keep _ _=>cases hs
  | zero =>
   have hp:H p=some (.tup [.str "zero"]):=hp;walk_at "rd";exact hp
  | one =>
   have hp:H p=some (.tup [.str "one"]):=hp;walk_at "rd";exact hp
  | not a =>
   have hp:H p=some (.tup [.str "not",.int a]):=hp;walk_at "rd";exact hp
  | pick a b c =>
   have hp:H p=some (.tup [.str "pick",.int a,.int b,.int c]):=hp;walk_at "rd";exact hp
  | and a b =>
   have hp:H p=some (.tup [.str "and",.int a,.int b]):=hp;walk_at "rd";rw [ah]; simp [Gt.mk,Gt.nf,Gt.ks,kV]; omega
  | or a b =>
   have hp:H p=some (.tup [.str "or",.int a,.int b]):=hp;walk_at "rd";rw [ah]; simp [Gt.mk,Gt.nf,Gt.ks,kV]; omega
  | xor a b =>
   have hp:H p=some (.tup [.str "xor",.int a,.int b]):=hp;walk_at "rd";rw [ah]; simp [Gt.mk,Gt.nf,Gt.ks,kV]; omega
 ·rintro σ H1 ⟨m,rfl,c1,hm⟩
  obtain ⟨⟨dy,hy⟩,⟨xs,hg,gg⟩,⟨kvs,hd,nm⟩⟩:=id (r.ch c1);have f1:=fs_n gl d;have f2:=(fsn gl d).l;have kl:=nm.len;have lx:=gg.len;have hp1:H1 p=some (.tup g.vs):=c1.get hp (by simp)
  have vk:=nm.val g;have nmg:m≠gl:=aV hm hg (by intro z; cases z)
  have nmd:m≠d:=aV hm hd (by intro z; cases z)
  have ngd:gl≠d:=aV hg hd (by intro z; cases z)
  have nyg:y≠gl:=aV hy hg (by intro z; cases z)
  refine bC (fun σ H'=>∃ kvs',σ=[some (.ref y),some (.ref p),some (.ref m)]/\Ch [gl,d] H H'/\ShAt C H' y gl d (like gs g).1/\H' d=some (.dT kvs')/\valV kvs' g.mk=some (nV (like gs g).2)/\H' m=some (.tup (g.mk.map kV))) ?_ ?_
  ·cases e:findI gs g with
   | some i =>
    have el:like gs g=(gs,i):=by unfold like; rw [e]
    rw [e] at vk;have vk:valV kvs g.mk=some (nV i):=vk;rw [el];walk_at "rd"
   | none =>
    have el:like gs g=(gs++[g],gs.length):=by unfold like; rw [e]
    rw [e] at vk;have vk:valV kvs g.mk=none:=vk;rw [el];have rp:=(r.ch c1).put hg hd hp1 hs e;rw [show nV gs.length=V.int (xs.length:Int) from by rw [lx]; rfl] at rp
    walk_at "rd";exact ⟨((Ch.mono c1 (by simp)).trans (Ch.mono Ch.put (by simp))).trans (Ch.mono Ch.put (by simp)),rp,ah,by rw [fW,yN rfl,lx]; rfl,aJ nmd (aJ nmg hm)⟩
  ·rintro σ H2 ⟨kvs2,rfl,c2,r2,hd2,vk2,hm2⟩
   obtain ⟨⟨dy2,hy2⟩,_,_⟩:=id r2;walk_at "rd";exact q _ c2 r2
theorem av43m3:AF (defScope (inClass (top 43) 3)) ["self"]:=⟨∅⟩
def spCon (C:Addr) (g:Gt):Sp:=fun vs H Q _=>∃ (y gl d:Addr) (gs:List Gt),vs=[.ref y]/\ShAt C H y gl d gs/\gs.length<=900/\∀ H',Ch [gl,d] H H'->ShAt C H' y gl d (like gs g).1->Q (nV (like gs g).2) H'
theorem scZero:FnScope ["self"] ["self"] (defScope (inClass (top 43) 3)):=⟨rfl,rfl,rfl,∅,rfl,∅,∅⟩
theorem vn (F:Fun K "zero" "Shrinker.zero" (inClass (top 43) 3) f fd) (cl:Cls K C) (MShrinker_gate_like:MethOk P w K mg base CX0 k C "gate_like" ["self", "gate"] (spLike C)):FnOk P w K mg base CX0 (k + 1) f fd ["self"] (spCon C .zero):=by
 have nd:=scZero.nd;refine F.ok scZero (fun vs H Q E h=>by obtain ⟨y,gl,d,gs,rfl,_⟩:=h; rfl) (fun cdv A outer s0 H vs Q E hr h=>?_)
 obtain ⟨y,gl,d,gs,rfl,r,sz,q⟩:=h;refine ⟨_,(Pr.h (ai (au (aW (qv av43m3 0 rfl) MShrinker_gate_like hr pass0 (aa (aD (aa aq ab ax)) ab bw))))),?_⟩
 (try dsimp only [cxOf])
 obtain ⟨⟨dy,hy⟩,_,_⟩:=id r;have f2:=(fsn gl d).k;walk_at "rd";rename_i T hT;exact ⟨(show _=some (HO.tup (Gt.vs .zero)) from ah),rfl,sz,fun H2 c2 r2=>q H2 ((Ch.new hT _).trans c2) r2⟩
theorem av43m4:AF (defScope (inClass (top 43) 4)) ["self"]:=⟨∅⟩
theorem scOne:FnScope ["self"] ["self"] (defScope (inClass (top 43) 4)):=⟨rfl,rfl,rfl,∅,rfl,∅,∅⟩
theorem vo (F:Fun K "one" "Shrinker.one" (inClass (top 43) 4) f fd) (cl:Cls K C) (MShrinker_gate_like:MethOk P w K mg base CX0 k C "gate_like" ["self", "gate"] (spLike C)):FnOk P w K mg base CX0 (k + 1) f fd ["self"] (spCon C .one):=by
 have nd:=scOne.nd;refine F.ok scOne (fun vs H Q E h=>by obtain ⟨y,gl,d,gs,rfl,_⟩:=h; rfl) (fun cdv A outer s0 H vs Q E hr h=>?_)
 obtain ⟨y,gl,d,gs,rfl,r,sz,q⟩:=h;refine ⟨_,(Pr.h (ai (au (aW (qv av43m4 0 rfl) MShrinker_gate_like hr pass0 (aa (aD (aa aq ab ax)) ab bw))))),?_⟩
 (try dsimp only [cxOf])
 obtain ⟨⟨dy,hy⟩,_,_⟩:=id r;have f2:=(fsn gl d).k;walk_at "rd";rename_i T hT;exact ⟨(show _=some (HO.tup (Gt.vs .one)) from ah),rfl,sz,fun H2 c2 r2=>q H2 ((Ch.new hT _).trans c2) r2⟩
theorem av43m5:AF (defScope (inClass (top 43) 5)) ["self", "number"]:=⟨∅⟩
def spOpp (C:Addr):Sp:=fun vs H Q _=>∃ (y gl d:Addr) (gs:List Gt) (n:Nat),vs=[.ref y,nV n]/\ShAt C H y gl d gs/\n < gs.length/\gs.length<=900/\∀ H',Ch [gl,d] H H'->ShAt C H' y gl d (opp gs n).1->Q (nV (opp gs n).2) H'
theorem scOpp:FnScope ["self", "number"] ["self", "number"] (defScope (inClass (top 43) 5)):=⟨rfl,rfl,rfl,∅,rfl,∅,∅⟩
theorem lP (h:∀ a,g≠.not a):decide (V.str g.wd=V.str "not")=false:=by
 cases g <;> first | exact absurd rfl (h _) | rfl
theorem vp{g:Gt} (h:gs[n]?=some g) (hn:∀ a,g≠.not a):opp gs n=like gs (.not n):=by
 unfold opp
 split
 ·rename_i a e
  rw [h] at e;exact absurd (zp e) (hn a)
 ·rfl
theorem vq (F:Fun K "opposite" "Shrinker.opposite" (inClass (top 43) 5) f fd) (cl:Cls K C) (nG:NoAttr K C "gates") (MShrinker_gate_like:MethOk P w K mg base CX0 k C "gate_like" ["self", "gate"] (spLike C)):FnOk P w K mg base CX0 (k + 1) f fd ["self", "number"] (spOpp C):=by
 have nd:=scOpp.nd;refine F.ok scOpp (fun vs H Q E h=>by obtain ⟨y,gl,d,gs,n,rfl,_⟩:=h; rfl) (fun cdv A outer s0 H vs Q E hr h=>?_)
 obtain ⟨y,gl,d,gs,n,rfl,r,hn,sz,q⟩:=h;unfold nV at *;refine ⟨_,(Pr.h (aj (aw (ay aB (ak aH (ak aC (aT (qv av43m5 0 rfl) rfl) (qv av43m5 1 rfl) (fun _ _=>rfl)) ag (fun _ _=>rfl)) aq (nomark _)) (ai (au (ak aH (ak aC (aT (qv av43m5 0 rfl) rfl) (qv av43m5 1 rfl) (fun _ _=>rfl)) ag (fun _ _=>rfl)))) az) (ai (au (aW (qv av43m5 0 rfl) MShrinker_gate_like hr pass0 (aa (aD (aa aq (aa (qv av43m5 1 rfl) ab ae) ax)) ab bw)))))),?_⟩
 (try dsimp only [cxOf])
 obtain ⟨⟨dy,hy⟩,_,_⟩:=id r;have f1:=fs_g gl d;have f2:=(fsn gl d).k;obtain ⟨g,eg⟩:∃ g,gs[n]?=some g:=⟨_,yO hn⟩;obtain ⟨xs,p,hg,at1,hp,lx⟩:=r.at eg
 by_cases hh:∃ a,g=.not a
 ·obtain ⟨a,rfl⟩:=hh
  have hp:H p=some (.tup [.str "not",.int a]):=hp;have eo:opp gs n=(gs,a):=by unfold opp; rw [eg]
  rw [eo] at q;walk_at "rd";exact q _ (Ch.refl _ _) r
 ·have hh:∀ a,g≠.not a:=fun a e=>hh ⟨a,e⟩
  obtain ⟨rs,ev⟩:=eJ g;rw [ev] at hp;have hw:=lP hh;rw [vp eg hh] at q;walk_at "rd";rw [hw];refine iteF ?_;walk_at "rd";rename_i T hT;exact ⟨(show _=some (HO.tup (Gt.vs (.not n))) from ah),rfl,sz,fun H2 c2 r2=>q H2 ((Ch.new hT _).trans c2) r2⟩
theorem av43m6:AF (defScope (inClass (top 43) 6)) ["self", "number"]:=⟨∅⟩
def spIs (C:Addr) (t:List Gt->Nat->Bool):Sp:=fun vs H Q _=>∃ (y gl d:Addr) (gs:List Gt) (n:Nat),vs=[.ref y,nV n]/\ShAt C H y gl d gs/\n < gs.length/\∀ H',Ch [] H H'->Q (.bl (t gs n)) H'
theorem scIsZ:FnScope ["self", "number"] ["self", "number"] (defScope (inClass (top 43) 6)):=⟨rfl,rfl,rfl,∅,rfl,∅,∅⟩
theorem bI{h:Gt} (e:gs[n]?=some g):decide (gs[n]?=some h)=decide (g.vs=h.vs):=by
 rw [e,lO]
 by_cases z:g=h <;> simp [z]
theorem vt (F:Fun K "is_zero" "Shrinker.is_zero" (inClass (top 43) 6) f fd) (cl:Cls K C) (nG:NoAttr K C "gates"):FnOk P w K mg base CX0 (k + 1) f fd ["self", "number"] (spIs C isZ):=by
 have nd:=scIsZ.nd;refine F.ok scIsZ (fun vs H Q E h=>by obtain ⟨y,gl,d,gs,n,rfl,_⟩:=h; rfl) (fun cdv A outer s0 H vs Q E hr h=>?_)
 obtain ⟨y,gl,d,gs,n,rfl,r,hn,q⟩:=h;unfold nV at *;refine ⟨_,(Pr.h (ai (au (bo (cu hr.units) (ak aC (aT (qv av43m6 0 rfl) rfl) (qv av43m6 1 rfl) (fun _ _=>rfl)) (aD (aa aq ab ax)) (nomark _))))),?_⟩
 (try dsimp only [cxOf])
 obtain ⟨⟨dy,hy⟩,_,_⟩:=id r;have f1:=fs_g gl d;obtain ⟨g,eg⟩:∃ g,gs[n]?=some g:=⟨_,yO hn⟩;obtain ⟨xs,p,hg,at1,hp,lx⟩:=r.at eg;have sc:=Gt.vs_sca g;have sc2:=Gt.vs_sca .zero;have q:∀ H',Ch [] H H'->Q (.bl (decide (gs[n]?=some .zero))) H':=q;rw [bI eg] at q;walk_at "rd";rename_i T hT;exact q _ (Ch.new hT _)
theorem av43m7:AF (defScope (inClass (top 43) 7)) ["self", "number"]:=⟨∅⟩
theorem scIsO:FnScope ["self", "number"] ["self", "number"] (defScope (inClass (top 43) 7)):=⟨rfl,rfl,rfl,∅,rfl,∅,∅⟩
theorem vv (F:Fun K "is_one" "Shrinker.is_one" (inClass (top 43) 7) f fd) (cl:Cls K C) (nG:NoAttr K C "gates"):FnOk P w K mg base CX0 (k + 1) f fd ["self", "number"] (spIs C isO):=by
 have nd:=scIsO.nd;refine F.ok scIsO (fun vs H Q E h=>by obtain ⟨y,gl,d,gs,n,rfl,_⟩:=h; rfl) (fun cdv A outer s0 H vs Q E hr h=>?_)
 obtain ⟨y,gl,d,gs,n,rfl,r,hn,q⟩:=h;unfold nV at *;refine ⟨_,(Pr.h (ai (au (bo (cu hr.units) (ak aC (aT (qv av43m7 0 rfl) rfl) (qv av43m7 1 rfl) (fun _ _=>rfl)) (aD (aa aq ab ax)) (nomark _))))),?_⟩
 (try dsimp only [cxOf])
 obtain ⟨⟨dy,hy⟩,_,_⟩:=id r;have f1:=fs_g gl d;obtain ⟨g,eg⟩:∃ g,gs[n]?=some g:=⟨_,yO hn⟩;obtain ⟨xs,p,hg,at1,hp,lx⟩:=r.at eg;have sc:=Gt.vs_sca g;have sc2:=Gt.vs_sca .one;have q:∀ H',Ch [] H H'->Q (.bl (decide (gs[n]?=some .one))) H':=q;rw [bI eg] at q;walk_at "rd";rename_i T hT;exact q _ (Ch.new hT _)
theorem av43m8:AF (defScope (inClass (top 43) 8)) ["self", "number", "other"]:=⟨∅⟩
def spOp2 (C:Addr):Sp:=fun vs H Q _=>∃ (y gl d:Addr) (gs:List Gt) (a b:Nat),vs=[.ref y,nV a,nV b]/\ShAt C H y gl d gs/\a < gs.length/\b < gs.length/\∀ H',Ch [] H H'->Q (.bl (opsd gs a b)) H'
theorem scOp2:FnScope ["self", "number", "other"] ["self", "number", "other"] (defScope (inClass (top 43) 8)):=⟨rfl,rfl,rfl,∅,rfl,∅,∅⟩
theorem vw (F:Fun K "are_opposed" "Shrinker.are_opposed" (inClass (top 43) 8) f fd) (cl:Cls K C) (nG:NoAttr K C "gates"):FnOk P w K mg base CX0 (k + 1) f fd ["self", "number", "other"] (spOp2 C):=by
 have nd:=scOp2.nd;refine F.ok scOp2 (fun vs H Q E h=>by obtain ⟨y,gl,d,gs,a,b,rfl,_⟩:=h; rfl) (fun cdv A outer s0 H vs Q E hr h=>?_)
 obtain ⟨y,gl,d,gs,a,b,rfl,r,ha,hb,q⟩:=h;unfold nV at *;refine ⟨_,(Pr.h (ai (au (dm (bo (cu hr.units) (ak aC (aT (qv av43m8 0 rfl) rfl) (qv av43m8 1 rfl) (fun _ _=>rfl)) (aD (aa aq (aa (qv av43m8 2 rfl) ab ae) ax)) (nomark _)) (bc (bo (cu hr.units) (ak aC (aT (qv av43m8 0 rfl) rfl) (qv av43m8 2 rfl) (fun _ _=>rfl)) (aD (aa aq (aa (qv av43m8 1 rfl) ab ae) ax)) (nomark _))))))),?_⟩
 (try dsimp only [cxOf])
 obtain ⟨⟨dy,hy⟩,_,_⟩:=id r;have f1:=fs_g gl d;obtain ⟨g,eg⟩:∃ g,gs[a]?=some g:=⟨_,yO ha⟩;obtain ⟨xs,p,hg,at1,hp,lx⟩:=r.at eg;obtain ⟨g2,eg2⟩:∃ g2,gs[b]?=some g2:=⟨_,yO hb⟩;obtain ⟨xs2,p2,hg2,at2,hp2,lx2⟩:=r.at eg2;rw [hg] at hg2;cases hg2;have sc:=Gt.vs_sca g;have sc1:=Gt.vs_sca g2;have sc2:=Gt.vs_sca (.not b);have sc3:=Gt.vs_sca (.not a);have q:∀ H',Ch [] H H'->Q (.bl (decide (gs[a]?=some (.not b)) || decide (gs[b]?=some (.not a)))) H':=q;rw [bI eg,bI eg2] at q;cases e1:decide (g.vs=(Gt.not b).vs) with
 | true =>
  have e2:decide (g.vs=[V.str "not",V.int b])=true:=e1;rw [e1,Bool.true_or] at q;walk_at "rd";rename_i T hT;rw [e2];exact q _ (Ch.new hT _)
 | false =>
  have e2:decide (g.vs=[V.str "not",V.int b])=false:=e1;rw [e1,Bool.false_or] at q;walk_at "rd";rename_i T hT;rw [e2];refine iteF ?_;walk_at "rd";rename_i T2 hT2;exact q _ ((Ch.new hT _).trans (Ch.new hT2 _))
end
end

section
local macro_rules | `(tactic| walk_at "user")=>`(tactic| first
 | (apply ShAt.ch; (focus with_reducible assumption); (focus walk_at "ch"))
 | exact Gt.vs_sca _)
theorem ShAt.tu {C:Addr}{y gl d:Addr}{gs:List Gt} (r:ShAt C H y gl d gs) (c:Ch [gl,d] H H'):Tu H H':=fun b xs h=>by
 obtain ⟨⟨dy,hy⟩,⟨ys,hg,gg⟩,⟨kvs,hd,nm⟩⟩:=r;exact c.get h (by simpa using ⟨aV h hg (by intro z; cases z),aV h hd (by intro z; cases z)⟩)
structure PR (C y gl d:Addr) (H:Hp) (Q:VK) (R:Rs):Prop where
 of:∀ r H',Ch [gl,d] H H'->H' r=some (.tup [nV R.2.1,.str R.2.2])->ShAt C H' y gl d R.1->Q (.ref r) H'
theorem PR.ch {y d:Addr}{H:Hp}{Q:VK}{R:Rs} (h:PR C y gl d H Q R) (c:Ch [] H H1):PR C y gl d H1 Q R:=⟨fun r H' c' a b=>h.of r H' ((Ch.mono c (by simp)).trans c') a b⟩
theorem vz (gs:List Gt) (g:Gt):∃ h,(like gs g).1[(like gs g).2]?=some h:=by
 unfold like;cases e:findI gs g with
 | some i=>obtain ⟨h,e',_⟩:=iP e; exact ⟨h,e'⟩
 | none=>exact ⟨g,by simp⟩
section
variable {P:Program}{w:World}{K:PySem.W.Frag}{mg:Str->Option Value}{base:Heap}{f:Addr}{fd:FuncData}{k:Nat}
theorem eK:Nd "plain_pair" := ∅
theorem av44:AF (defScope (top 44)) ["shrinker", "gate", "number"]:=⟨∅⟩
def spPl (C:Addr):Sp:=fun vs H Q _=>∃ (y p gl d:Addr) (gs:List Gt) (g:Gt),vs=[.ref y,.ref p]/\ShAt C H y gl d gs/\H p=some (.tup g.vs)/\g.src=false/\gs.length<=900/\PR C y gl d H Q (plain gs g)
theorem scPl:FnScope ["shrinker", "gate", "number"] ["shrinker", "gate"] (defScope (top 44)):=⟨rfl,rfl,rfl,∅,rfl,∅,∅⟩
theorem vA (F:Fun K "plain_pair" "plain_pair" (top 44) f fd) (cl:Cls K C) (nG:NoAttr K C "gates") (MShrinker_gate_like:MethOk P w K mg base CX0 k C "gate_like" ["self", "gate"] (spLike C)):FnOk P w K mg base CX0 (k + 1) f fd ["shrinker", "gate"] (spPl C):=by
 have nd:=scPl.nd;refine F.ok scPl (fun vs H Q E h=>by obtain ⟨y,p,gl,d,gs,g,rfl,_⟩:=h; rfl) (fun cdv A outer s0 H vs Q E hr h=>?_)
 obtain ⟨y,p,gl,d,gs,g,rfl,r,hp,hs,sz,q⟩:=h;refine ⟨_,(Pr.h (bG (aE (i:=2) nd rfl (av44.l 2 rfl) (aW (qv av44 0 rfl) MShrinker_gate_like hr pass0 (aa (qv av44 1 rfl) ab ae))) (ai (au (aD (aa (qv av44 2 rfl) (aa (fZ (ay (cu hr.units) (ak aC (aT (qv av44 0 rfl) rfl) (qv av44 2 rfl) (fun _ _=>rfl)) (qv av44 1 rfl) (nomark _)) aq aq) ab iq) ae)))))),?_⟩
 (try dsimp only [cxOf])
 obtain ⟨⟨dy,hy⟩,_,_⟩:=id r;have f1:=fs_g gl d;have f2:=(fsn gl d).k;walk_at "rd";refine bC (fun σ H2=>σ=[some (.ref y),some (.ref p),some (nV (like gs g).2)]/\Ch [gl,d] H H2/\ShAt C H2 y gl d (like gs g).1) ?_ ?_
 ·walk_at "rd"
 rintro σ H2 ⟨rfl,c2,r2⟩;obtain ⟨h,eh⟩:=vz gs g;obtain ⟨⟨dy2,hy2⟩,_,_⟩:=id r2;obtain ⟨xs,p2,hg,at1,hp2,lx⟩:=r2.at eh;have hp3:=r.tu c2 _ _ hp;have sc:=Gt.vs_sca h;have sc2:=Gt.vs_sca g;have sd:=bI (h:=g) eh;have q:=q.of;unfold plain nV at q;unfold nV;walk_at "rd";refine ite2 (fun z=>?_) (fun z=>?_)
 ·have z:decide (h.vs=g.vs)=true:=z
  rw [z] at sd;rw [yN (zL sd)] at q;walk_at "rd";exact q _ _ (c2.trans (Ch.new (by assumption) _)) ah (r2.ch (Ch.new (by assumption) _))
 ·have z:decide (h.vs=g.vs)=false:=by simpa using z
  rw [z] at sd;rw [yM (of_decide_eq_false sd)] at q;walk_at "rd";exact q _ _ (c2.trans (Ch.new (by assumption) _)) ah (r2.ch (Ch.new (by assumption) _))
theorem av45:AF (defScope (top 45)) ["shrinker", "x"]:=⟨∅⟩
theorem gl45:AG (defScope (top 45)) ["plain_pair"]:=⟨∅⟩
theorem vB{x a:Nat} (e:gs[x]?=some (.not a)):notP gs x=((gs,a, "inner"):Rs):=by
 have h1:¬ isZ gs x=true:=by simp [isZ,e]
 have h2:¬ isO gs x=true:=by simp [isO,e]
 unfold notP;rw [yM h1,yM h2];simp [e]
theorem vC{x:Nat}{g:Gt} (h1:¬ isZ gs x=true) (h2:¬ isO gs x=true) (e:gs[x]?=some g) (hh:∀ a,g≠.not a):notP gs x=plain gs (.not x):=by
 unfold notP;rw [yM h1,yM h2]
 split
 ·rename_i a e'
  rw [e] at e';exact absurd (zp e') (hh a)
 ·rfl
def spNotP (C:Addr):Sp:=fun vs H Q _=>∃ (y gl d:Addr) (gs:List Gt) (x:Nat),vs=[.ref y,nV x]/\ShAt C H y gl d gs/\x < gs.length/\gs.length<=900/\PR C y gl d H Q (notP gs x)
theorem scNotP:FnScope ["shrinker", "x"] ["shrinker", "x"] (defScope (top 45)):=⟨rfl,rfl,rfl,∅,rfl,∅,∅⟩
theorem vD (F:Fun K "not_pair" "not_pair" (top 45) f fd) (cl:Cls K C) (nG:NoAttr K C "gates") (MShrinker_is_zero:MethOk P w K mg base CX0 k C "is_zero" ["self", "number"] (spIs C isZ)) (MShrinker_is_one:MethOk P w K mg base CX0 k C "is_one" ["self", "number"] (spIs C isO))
  (MShrinker_zero:MethOk P w K mg base CX0 k C "zero" ["self"] (spCon C .zero)) (MShrinker_one:MethOk P w K mg base CX0 k C "one" ["self"] (spCon C .one)) (MShrinker_opposite:MethOk P w K mg base CX0 k C "opposite" ["self", "number"] (spOpp C)) (Dplain_pair:DefOk P w K mg base CX0 k "plain_pair" ["shrinker", "gate"] (spPl C)):FnOk P w K mg base CX0 (k + 1) f fd ["shrinker", "x"] (spNotP C):=by
 have nd:=scNotP.nd;refine F.ok scNotP (fun vs H Q E h=>by obtain ⟨y,gl,d,gs,x,rfl,_⟩:=h; rfl) (fun cdv A outer s0 H vs Q E hr h=>?_)
 obtain ⟨y,gl,d,gs,x,rfl,r,hx,sz,q⟩:=h;refine ⟨_,(Pr.h (aj (aw (aU (aW (qv av45 0 rfl) MShrinker_is_zero hr pass0 (aa (qv av45 1 rfl) ab ae))) (ai (au (aD (aa (eF (qv av45 0 rfl) MShrinker_one hr pass0) (aa aq ab ax) bb)))) az) (aj (aw (aU (aW (qv av45 0 rfl) MShrinker_is_one hr pass0 (aa (qv av45 1 rfl) ab ae))) (ai (au (aD (aa (eF (qv av45 0 rfl) MShrinker_zero hr pass0) (aa aq ab ax) bb)))) az) (aj (aw (ay aB (ak aH (ak aC (aT (qv av45 0 rfl) rfl) (qv av45 1 rfl) (fun _ _=>rfl)) ag (fun _ _=>rfl)) aq (nomark _)) (ai (au (aD (aa (aW (qv av45 0 rfl) MShrinker_opposite hr pass0 (aa (qv av45 1 rfl) ab ae)) (aa aq ab ax) bb)))) az) (ai (au (av Dplain_pair hr (gl45.g 0 rfl) pass0 (aa (qv av45 0 rfl) (aa (aD (aa aq (aa (qv av45 1 rfl) ab ae) ax)) ab bw) ae) eK))))))),?_⟩
 (try dsimp only [cxOf])
 obtain ⟨⟨dy,hy⟩,_,_⟩:=id r;have f1:=fs_g gl d;have f2:=fsn gl d;obtain ⟨fl,fk,fz,fo,fp,fiz,fio,fao⟩:=f2;walk_at "rd";rename_i H1 c1
 dsimp only
 obtain ⟨g,eg⟩:∃ g,gs[x]?=some g:=⟨_,yO hx⟩;refine ite2 (fun hz=>?_) (fun hz=>?_)
 ·have e:notP gs x=lk gs .one "one" := by unfold notP; rw [yN hz]
  rw [e] at q;have hy1:=c1.get hy (by simp)
  walk_at "rd";rename_i H2 c2 r2 T hT;exact q.of _ _ (((Ch.wk c1).trans c2).trans (Ch.new hT _)) ah (r2.ch (Ch.new hT _))
 ·have hy1:=c1.get hy (by simp)
  walk_at "rd";rename_i H2 c2
  dsimp only
  have c12:=c1.trans c2;have r2:=r.ch c12;have hy2:=c12.get hy (by simp)
  refine ite2 (fun ho=>?_) (fun ho=>?_)
  ·have e:notP gs x=lk gs .zero "zero" := by unfold notP; rw [yM hz,yN ho]
   rw [e] at q;clear c2 c1;walk_at "rd";rename_i H3 c3 r3 T hT;exact q.of _ _ (((Ch.wk c12).trans c3).trans (Ch.new hT _)) ah (r3.ch (Ch.new hT _))
  ·obtain ⟨xs,p,hg,at1,hp,lx⟩:=r2.at eg
   clear c2 c1;unfold nV
   by_cases hh:∃ a,g=.not a
   ·obtain ⟨a,rfl⟩:=hh
    have hp:H2 p=some (.tup [.str "not",.int a]):=hp;have eo:opp gs x=(gs,a):=by unfold opp; rw [eg]
    rw [vB eg] at q;walk_at "rd";rename_i H3 c3 r3 T hT;rw [eo] at r3;refine q.of _ _ (((Ch.wk c12).trans c3).trans (Ch.new hT _)) ?_ (r3.ch (Ch.new hT _));rw [ah,eo]
   ·have hh:∀ a,g≠.not a:=fun a e=>hh ⟨a,e⟩
    obtain ⟨rs,ev⟩:=eJ g;rw [ev] at hp;have hw:=lP hh;rw [vC hz ho eg hh] at q;walk_at "rd";rw [hw];refine iteF ?_;walk_at "rd";rename_i T hT;exact ⟨(show _=some (HO.tup (Gt.vs (.not x))) from ah),rfl,sz,q.ch (c12.trans (Ch.new hT _))⟩
theorem av46:AF (defScope (top 46)) ["shrinker", "x", "y"]:=⟨∅⟩
theorem gl46:AG (defScope (top 46)) ["plain_pair"]:=⟨∅⟩
def spAndP (C:Addr):Sp:=fun vs H Q _=>∃ (y0 gl d:Addr) (gs:List Gt) (x y:Nat),vs=[.ref y0,nV x,nV y]/\ShAt C H y0 gl d gs/\x < gs.length/\y < gs.length/\gs.length<=900/\PR C y0 gl d H Q (andP gs x y)
theorem scAndP:FnScope ["shrinker", "x", "y"] ["shrinker", "x", "y"] (defScope (top 46)):=⟨rfl,rfl,rfl,∅,rfl,∅,∅⟩
theorem vE (F:Fun K "and_pair" "and_pair" (top 46) f fd) (cl:Cls K C) (MShrinker_is_zero:MethOk P w K mg base CX0 k C "is_zero" ["self", "number"] (spIs C isZ)) (MShrinker_is_one:MethOk P w K mg base CX0 k C "is_one" ["self", "number"] (spIs C isO)) (MShrinker_zero:MethOk P w K mg base CX0 k C "zero" ["self"] (spCon C .zero)) (MShrinker_are_opposed:MethOk P w K mg base CX0 k C "are_opposed" ["self", "number", "other"] (spOp2 C)) (Dplain_pair:DefOk P w K mg base CX0 k "plain_pair" ["shrinker", "gate"] (spPl C)):FnOk P w K mg base CX0 (k + 1) f fd ["shrinker", "x", "y"] (spAndP C):=by
 have nd:=scAndP.nd;refine F.ok scAndP (fun vs H Q E h=>by obtain ⟨y0,gl,d,gs,x,y,rfl,_⟩:=h; rfl) (fun cdv A outer s0 H vs Q E hr h=>?_)
 obtain ⟨y0,gl,d,gs,x,y,rfl,r0,lx,ly,sz,q⟩:=h;unfold nV;refine ⟨_,(Pr.h (aj (aw (br (bK (aU (aW (qv av46 0 rfl) MShrinker_is_one hr pass0 (aa (qv av46 2 rfl) ab ae))) (bR (ay aB (qv av46 1 rfl) (qv av46 2 rfl) (nomark _))))) (ai (au (aD (aa (qv av46 1 rfl) (aa aq ab ax) ae)))) az) (aj (aw (aU (aW (qv av46 0 rfl) MShrinker_is_one hr pass0 (aa (qv av46 1 rfl) ab ae))) (ai (au (aD (aa (qv av46 2 rfl) (aa aq ab ax) ae)))) az) (aj (aw (br (bK (aU (aW (qv av46 0 rfl) MShrinker_is_zero hr pass0 (aa (qv av46 1 rfl) ab ae))) (bK (aU (aW (qv av46 0 rfl) MShrinker_is_zero hr pass0 (aa (qv av46 2 rfl) ab ae))) (bR (aU (aW (qv av46 0 rfl) MShrinker_are_opposed hr pass0 (aa (qv av46 1 rfl) (aa (qv av46 2 rfl) ab ae) ae))))))) (ai (au (aD (aa (eF (qv av46 0 rfl) MShrinker_zero hr pass0) (aa aq ab ax) bb)))) az) (ai (au (av Dplain_pair hr (gl46.g 0 rfl) pass0 (aa (qv av46 0 rfl) (aa (aD (aa aq (aa (qv av46 1 rfl) (aa (qv av46 2 rfl) ab ae) ae) ax)) ab bw) ae) eK))))))),?_⟩
 (try dsimp only [cxOf])
 obtain ⟨⟨dy,hy0⟩,_,_⟩:=id r0;have c0:=Ch.refl [] H;obtain ⟨fl,fk,fz,fo,fp,fiz,fio,fao⟩:=fsn gl d;walk_at "rd";rename_i H1 d1
 dsimp only
 have c1:=c0.trans d1;have r1:=r0.ch d1;have hy1:=d1.get hy0 (by simp)
 clear d1 c0 r0 hy0;refine ite2 (fun h0=>?_) (fun h0=>?_)
 ·rw [show andP gs x y=((gs,x, "first"):Rs) from by unfold andP; simp [h0]] at q
  walk_at "rd";rename_i T hT;exact q.of _ _ ((Ch.wk c1).trans (Ch.new hT _)) ah (r1.ch (Ch.new hT _))
 ·walk_at "rd"
  refine ite2 (fun ez=>?_) (fun ez=>?_)
  ·have h1:x=y:=by simp at ez; omega
   clear ez;rw [show andP gs x y=((gs,x, "first"):Rs) from by unfold andP; simp [h0,h1]] at q
   walk_at "rd";rename_i T hT;exact q.of _ _ ((Ch.wk c1).trans (Ch.new hT _)) ah (r1.ch (Ch.new hT _))
  ·have h1:¬ x=y:=by simp at ez; omega
   clear ez;walk_at "rd";rename_i H2 d2
   dsimp only
   have c2:=c1.trans d2;have r2:=r1.ch d2;have hy2:=d2.get hy1 (by simp)
   clear d2 c1 r1 hy1;refine ite2 (fun h2=>?_) (fun h2=>?_)
   ·rw [show andP gs x y=((gs,y, "second"):Rs) from by unfold andP; simp [h0,h1,h2]] at q
    walk_at "rd";rename_i T hT;exact q.of _ _ ((Ch.wk c2).trans (Ch.new hT _)) ah (r2.ch (Ch.new hT _))
   ·walk_at "rd"
    rename_i H3 d3
    dsimp only
    have c3:=c2.trans d3;have r3:=r2.ch d3;have hy3:=d3.get hy2 (by simp)
    clear d3 c2 r2 hy2;refine ite2 (fun h3=>?_) (fun h3=>?_)
    ·rw [show andP gs x y=lk gs .zero "zero" from by unfold andP; simp [h0,h1,h2,h3]] at q
     walk_at "rd";rename_i H9 c9 r9 T hT;exact q.of _ _ (((Ch.wk c3).trans c9).trans (Ch.new hT _)) ah (r9.ch (Ch.new hT _))
    ·walk_at "rd"
     rename_i H4 d4
     dsimp only
     have c4:=c3.trans d4;have r4:=r3.ch d4;have hy4:=d4.get hy3 (by simp)
     clear d4 c3 r3 hy3;refine ite2 (fun h4=>?_) (fun h4=>?_)
     ·rw [show andP gs x y=lk gs .zero "zero" from by unfold andP; simp [h0,h1,h2,h3,h4]] at q
      walk_at "rd";rename_i H9 c9 r9 T hT;exact q.of _ _ (((Ch.wk c4).trans c9).trans (Ch.new hT _)) ah (r9.ch (Ch.new hT _))
     ·walk_at "rd"
      rename_i H5 d5
      dsimp only
      have c5:=c4.trans d5;have r5:=r4.ch d5;have hy5:=d5.get hy4 (by simp)
      clear d5 c4 r4 hy4;refine ite2 (fun h5=>?_) (fun h5=>?_)
      ·rw [show andP gs x y=lk gs .zero "zero" from by unfold andP; simp [h0,h1,h2,h3,h4,h5]] at q
       walk_at "rd";rename_i H9 c9 r9 T hT;exact q.of _ _ (((Ch.wk c5).trans c9).trans (Ch.new hT _)) ah (r9.ch (Ch.new hT _))
      ·rw [show andP gs x y=plain gs (.and x y) from by unfold andP; simp [h0,h1,h2,h3,h4,h5]] at q
       walk_at "rd";rename_i T hT;exact ⟨(show _=some (HO.tup (Gt.vs (.and x y))) from ah),rfl,sz,q.ch (c5.trans (Ch.new hT _))⟩
theorem av47:AF (defScope (top 47)) ["shrinker", "x", "y"]:=⟨∅⟩
theorem gl47:AG (defScope (top 47)) ["plain_pair"]:=⟨∅⟩
def spOrP (C:Addr):Sp:=fun vs H Q _=>∃ (y0 gl d:Addr) (gs:List Gt) (x y:Nat),vs=[.ref y0,nV x,nV y]/\ShAt C H y0 gl d gs/\x < gs.length/\y < gs.length/\gs.length<=900/\PR C y0 gl d H Q (orP gs x y)
theorem scOrP:FnScope ["shrinker", "x", "y"] ["shrinker", "x", "y"] (defScope (top 47)):=⟨rfl,rfl,rfl,∅,rfl,∅,∅⟩
theorem vF (F:Fun K "or_pair" "or_pair" (top 47) f fd) (cl:Cls K C) (MShrinker_is_zero:MethOk P w K mg base CX0 k C "is_zero" ["self", "number"] (spIs C isZ)) (MShrinker_is_one:MethOk P w K mg base CX0 k C "is_one" ["self", "number"] (spIs C isO)) (MShrinker_one:MethOk P w K mg base CX0 k C "one" ["self"] (spCon C .one)) (MShrinker_are_opposed:MethOk P w K mg base CX0 k C "are_opposed" ["self", "number", "other"] (spOp2 C)) (Dplain_pair:DefOk P w K mg base CX0 k "plain_pair" ["shrinker", "gate"] (spPl C)):FnOk P w K mg base CX0 (k + 1) f fd ["shrinker", "x", "y"] (spOrP C):=by
 have nd:=scOrP.nd;refine F.ok scOrP (fun vs H Q E h=>by obtain ⟨y0,gl,d,gs,x,y,rfl,_⟩:=h; rfl) (fun cdv A outer s0 H vs Q E hr h=>?_)
 obtain ⟨y0,gl,d,gs,x,y,rfl,r0,lx,ly,sz,q⟩:=h;unfold nV;refine ⟨_,(Pr.h (aj (aw (br (bK (aU (aW (qv av47 0 rfl) MShrinker_is_zero hr pass0 (aa (qv av47 2 rfl) ab ae))) (bR (ay aB (qv av47 1 rfl) (qv av47 2 rfl) (nomark _))))) (ai (au (aD (aa (qv av47 1 rfl) (aa aq ab ax) ae)))) az) (aj (aw (aU (aW (qv av47 0 rfl) MShrinker_is_zero hr pass0 (aa (qv av47 1 rfl) ab ae))) (ai (au (aD (aa (qv av47 2 rfl) (aa aq ab ax) ae)))) az) (aj (aw (br (bK (aU (aW (qv av47 0 rfl) MShrinker_is_one hr pass0 (aa (qv av47 1 rfl) ab ae))) (bK (aU (aW (qv av47 0 rfl) MShrinker_is_one hr pass0 (aa (qv av47 2 rfl) ab ae))) (bR (aU (aW (qv av47 0 rfl) MShrinker_are_opposed hr pass0 (aa (qv av47 1 rfl) (aa (qv av47 2 rfl) ab ae) ae))))))) (ai (au (aD (aa (eF (qv av47 0 rfl) MShrinker_one hr pass0) (aa aq ab ax) bb)))) az) (ai (au (av Dplain_pair hr (gl47.g 0 rfl) pass0 (aa (qv av47 0 rfl) (aa (aD (aa aq (aa (qv av47 1 rfl) (aa (qv av47 2 rfl) ab ae) ae) ax)) ab bw) ae) eK))))))),?_⟩
 (try dsimp only [cxOf])
 obtain ⟨⟨dy,hy0⟩,_,_⟩:=id r0;have c0:=Ch.refl [] H;obtain ⟨fl,fk,fz,fo,fp,fiz,fio,fao⟩:=fsn gl d;walk_at "rd";rename_i H1 d1
 dsimp only
 have c1:=c0.trans d1;have r1:=r0.ch d1;have hy1:=d1.get hy0 (by simp)
 clear d1 c0 r0 hy0;refine ite2 (fun h0=>?_) (fun h0=>?_)
 ·rw [show orP gs x y=((gs,x, "first"):Rs) from by unfold orP; simp [h0]] at q
  walk_at "rd";rename_i T hT;exact q.of _ _ ((Ch.wk c1).trans (Ch.new hT _)) ah (r1.ch (Ch.new hT _))
 ·walk_at "rd"
  refine ite2 (fun ez=>?_) (fun ez=>?_)
  ·have h1:x=y:=by simp at ez; omega
   clear ez;rw [show orP gs x y=((gs,x, "first"):Rs) from by unfold orP; simp [h0,h1]] at q
   walk_at "rd";rename_i T hT;exact q.of _ _ ((Ch.wk c1).trans (Ch.new hT _)) ah (r1.ch (Ch.new hT _))
  ·have h1:¬ x=y:=by simp at ez; omega
   clear ez;walk_at "rd";rename_i H2 d2
   dsimp only
   have c2:=c1.trans d2;have r2:=r1.ch d2;have hy2:=d2.get hy1 (by simp)
   clear d2 c1 r1 hy1;refine ite2 (fun h2=>?_) (fun h2=>?_)
   ·rw [show orP gs x y=((gs,y, "second"):Rs) from by unfold orP; simp [h0,h1,h2]] at q
    walk_at "rd";rename_i T hT;exact q.of _ _ ((Ch.wk c2).trans (Ch.new hT _)) ah (r2.ch (Ch.new hT _))
   ·walk_at "rd"
    rename_i H3 d3
    dsimp only
    have c3:=c2.trans d3;have r3:=r2.ch d3;have hy3:=d3.get hy2 (by simp)
    clear d3 c2 r2 hy2;refine ite2 (fun h3=>?_) (fun h3=>?_)
    ·rw [show orP gs x y=lk gs .one "one" from by unfold orP; simp [h0,h1,h2,h3]] at q
     walk_at "rd";rename_i H9 c9 r9 T hT;exact q.of _ _ (((Ch.wk c3).trans c9).trans (Ch.new hT _)) ah (r9.ch (Ch.new hT _))
    ·walk_at "rd"
     rename_i H4 d4
     dsimp only
     have c4:=c3.trans d4;have r4:=r3.ch d4;have hy4:=d4.get hy3 (by simp)
     clear d4 c3 r3 hy3;refine ite2 (fun h4=>?_) (fun h4=>?_)
     ·rw [show orP gs x y=lk gs .one "one" from by unfold orP; simp [h0,h1,h2,h3,h4]] at q
      walk_at "rd";rename_i H9 c9 r9 T hT;exact q.of _ _ (((Ch.wk c4).trans c9).trans (Ch.new hT _)) ah (r9.ch (Ch.new hT _))
     ·walk_at "rd"
      rename_i H5 d5
      dsimp only
      have c5:=c4.trans d5;have r5:=r4.ch d5;have hy5:=d5.get hy4 (by simp)
      clear d5 c4 r4 hy4;refine ite2 (fun h5=>?_) (fun h5=>?_)
      ·rw [show orP gs x y=lk gs .one "one" from by unfold orP; simp [h0,h1,h2,h3,h4,h5]] at q
       walk_at "rd";rename_i H9 c9 r9 T hT;exact q.of _ _ (((Ch.wk c5).trans c9).trans (Ch.new hT _)) ah (r9.ch (Ch.new hT _))
      ·rw [show orP gs x y=plain gs (.or x y) from by unfold orP; simp [h0,h1,h2,h3,h4,h5]] at q
       walk_at "rd";rename_i T hT;exact ⟨(show _=some (HO.tup (Gt.vs (.or x y))) from ah),rfl,sz,q.ch (c5.trans (Ch.new hT _))⟩
theorem av48:AF (defScope (top 48)) ["shrinker", "x", "y"]:=⟨∅⟩
theorem gl48:AG (defScope (top 48)) ["plain_pair"]:=⟨∅⟩
def spXorP (C:Addr):Sp:=fun vs H Q _=>∃ (y0 gl d:Addr) (gs:List Gt) (x y:Nat),vs=[.ref y0,nV x,nV y]/\ShAt C H y0 gl d gs/\x < gs.length/\y < gs.length/\gs.length<=900/\PR C y0 gl d H Q (xorP gs x y)
theorem scXorP:FnScope ["shrinker", "x", "y"] ["shrinker", "x", "y"] (defScope (top 48)):=⟨rfl,rfl,rfl,∅,rfl,∅,∅⟩
theorem vG (F:Fun K "xor_pair" "xor_pair" (top 48) f fd) (cl:Cls K C) (MShrinker_is_zero:MethOk P w K mg base CX0 k C "is_zero" ["self", "number"] (spIs C isZ)) (MShrinker_is_one:MethOk P w K mg base CX0 k C "is_one" ["self", "number"] (spIs C isO)) (MShrinker_zero:MethOk P w K mg base CX0 k C "zero" ["self"] (spCon C .zero)) (MShrinker_one:MethOk P w K mg base CX0 k C "one" ["self"] (spCon C .one)) (MShrinker_are_opposed:MethOk P w K mg base CX0 k C "are_opposed" ["self", "number", "other"] (spOp2 C)) (MShrinker_opposite:MethOk P w K mg base CX0 k C "opposite" ["self", "number"] (spOpp C)) (Dplain_pair:DefOk P w K mg base CX0 k "plain_pair" ["shrinker", "gate"] (spPl C)):FnOk P w K mg base CX0 (k + 1) f fd ["shrinker", "x", "y"] (spXorP C):=by
 have nd:=scXorP.nd;refine F.ok scXorP (fun vs H Q E h=>by obtain ⟨y0,gl,d,gs,x,y,rfl,_⟩:=h; rfl) (fun cdv A outer s0 H vs Q E hr h=>?_)
 obtain ⟨y0,gl,d,gs,x,y,rfl,r0,lx,ly,sz,q⟩:=h;unfold nV;refine ⟨_,(Pr.h (aj (aw (aU (aW (qv av48 0 rfl) MShrinker_is_zero hr pass0 (aa (qv av48 2 rfl) ab ae))) (ai (au (aD (aa (qv av48 1 rfl) (aa aq ab ax) ae)))) az) (aj (aw (aU (aW (qv av48 0 rfl) MShrinker_is_zero hr pass0 (aa (qv av48 1 rfl) ab ae))) (ai (au (aD (aa (qv av48 2 rfl) (aa aq ab ax) ae)))) az) (aj (aw (ay aB (qv av48 1 rfl) (qv av48 2 rfl) (nomark _)) (ai (au (aD (aa (eF (qv av48 0 rfl) MShrinker_zero hr pass0) (aa aq ab ax) bb)))) az) (aj (aw (aU (aW (qv av48 0 rfl) MShrinker_are_opposed hr pass0 (aa (qv av48 1 rfl) (aa (qv av48 2 rfl) ab ae) ae))) (ai (au (aD (aa (eF (qv av48 0 rfl) MShrinker_one hr pass0) (aa aq ab ax) bb)))) az) (aj (aw (aU (aW (qv av48 0 rfl) MShrinker_is_one hr pass0 (aa (qv av48 2 rfl) ab ae))) (ai (au (aD (aa (aW (qv av48 0 rfl) MShrinker_opposite hr pass0 (aa (qv av48 1 rfl) ab ae)) (aa aq ab ax) bb)))) az) (aj (aw (aU (aW (qv av48 0 rfl) MShrinker_is_one hr pass0 (aa (qv av48 1 rfl) ab ae))) (ai (au (aD (aa (aW (qv av48 0 rfl) MShrinker_opposite hr pass0 (aa (qv av48 2 rfl) ab ae)) (aa aq ab ax) bb)))) az) (ai (au (av Dplain_pair hr (gl48.g 0 rfl) pass0 (aa (qv av48 0 rfl) (aa (aD (aa aq (aa (qv av48 1 rfl) (aa (qv av48 2 rfl) ab ae) ae) ax)) ab bw) ae) eK)))))))))),?_⟩
 (try dsimp only [cxOf])
 obtain ⟨⟨dy,hy0⟩,_,_⟩:=id r0;have c0:=Ch.refl [] H;obtain ⟨fl,fk,fz,fo,fp,fiz,fio,fao⟩:=fsn gl d;walk_at "rd";rename_i H1 d1
 dsimp only
 have c1:=c0.trans d1;have r1:=r0.ch d1;have hy1:=d1.get hy0 (by simp)
 clear d1 c0 r0 hy0;refine ite2 (fun h0=>?_) (fun h0=>?_)
 ·rw [show xorP gs x y=((gs,x, "first"):Rs) from by unfold xorP; simp [h0]] at q
  walk_at "rd";rename_i T hT;exact q.of _ _ ((Ch.wk c1).trans (Ch.new hT _)) ah (r1.ch (Ch.new hT _))
 ·walk_at "rd"
  rename_i H2 d2
  dsimp only
  have c2:=c1.trans d2;have r2:=r1.ch d2;have hy2:=d2.get hy1 (by simp)
  clear d2 c1 r1 hy1;refine ite2 (fun h1=>?_) (fun h1=>?_)
  ·rw [show xorP gs x y=((gs,y, "second"):Rs) from by unfold xorP; simp [h0,h1]] at q
   walk_at "rd";rename_i T hT;exact q.of _ _ ((Ch.wk c2).trans (Ch.new hT _)) ah (r2.ch (Ch.new hT _))
  ·walk_at "rd"
   refine ite2 (fun ez=>?_) (fun ez=>?_)
   ·have h2:x=y:=by simp at ez; omega
    clear ez;rw [show xorP gs x y=lk gs .zero "zero" from by unfold xorP; simp [h0,h1,h2]] at q
    walk_at "rd";rename_i H9 c9 r9 T hT;exact q.of _ _ (((Ch.wk c2).trans c9).trans (Ch.new hT _)) ah (r9.ch (Ch.new hT _))
   ·have h2:¬ x=y:=by simp at ez; omega
    clear ez;walk_at "rd";rename_i H3 d3
    dsimp only
    have c3:=c2.trans d3;have r3:=r2.ch d3;have hy3:=d3.get hy2 (by simp)
    clear d3 c2 r2 hy2;refine ite2 (fun h3=>?_) (fun h3=>?_)
    ·rw [show xorP gs x y=lk gs .one "one" from by unfold xorP; simp [h0,h1,h2,h3]] at q
     walk_at "rd";rename_i H9 c9 r9 T hT;exact q.of _ _ (((Ch.wk c3).trans c9).trans (Ch.new hT _)) ah (r9.ch (Ch.new hT _))
    ·walk_at "rd"
     rename_i H4 d4
     dsimp only
     have c4:=c3.trans d4;have r4:=r3.ch d4;have hy4:=d4.get hy3 (by simp)
     clear d4 c3 r3 hy3;refine ite2 (fun h4=>?_) (fun h4=>?_)
     ·rw [show xorP gs x y=(((opp gs x).1,(opp gs x).2, "not"):Rs) from by unfold xorP; simp [h0,h1,h2,h3,h4]] at q
      walk_at "rd";rename_i H9 c9 r9 T hT;exact q.of _ _ (((Ch.wk c4).trans c9).trans (Ch.new hT _)) ah (r9.ch (Ch.new hT _))
     ·walk_at "rd"
      rename_i H5 d5
      dsimp only
      have c5:=c4.trans d5;have r5:=r4.ch d5;have hy5:=d5.get hy4 (by simp)
      clear d5 c4 r4 hy4;refine ite2 (fun h5=>?_) (fun h5=>?_)
      ·rw [show xorP gs x y=(((opp gs y).1,(opp gs y).2, "not"):Rs) from by unfold xorP; simp [h0,h1,h2,h3,h4,h5]] at q
       walk_at "rd";rename_i H9 c9 r9 T hT;exact q.of _ _ (((Ch.wk c5).trans c9).trans (Ch.new hT _)) ah (r9.ch (Ch.new hT _))
      ·rw [show xorP gs x y=plain gs (.xor x y) from by unfold xorP; simp [h0,h1,h2,h3,h4,h5]] at q
       walk_at "rd";rename_i T hT;exact ⟨(show _=some (HO.tup (Gt.vs (.xor x y))) from ah),rfl,sz,q.ch (c5.trans (Ch.new hT _))⟩
theorem av49:AF (defScope (top 49)) ["shrinker", "x", "y", "z"]:=⟨∅⟩
theorem gl49:AG (defScope (top 49)) ["plain_pair"]:=⟨∅⟩
def spPickP (C:Addr):Sp:=fun vs H Q _=>∃ (y0 gl d:Addr) (gs:List Gt) (x y z:Nat),vs=[.ref y0,nV x,nV y,nV z]/\ShAt C H y0 gl d gs/\x < gs.length/\y < gs.length/\z < gs.length/\gs.length<=900/\PR C y0 gl d H Q (pickP gs x y z)
theorem scPickP:FnScope ["shrinker", "x", "y", "z"] ["shrinker", "x", "y", "z"] (defScope (top 49)):=⟨rfl,rfl,rfl,∅,rfl,∅,∅⟩
theorem vH (F:Fun K "pick_pair" "pick_pair" (top 49) f fd) (cl:Cls K C) (MShrinker_is_zero:MethOk P w K mg base CX0 k C "is_zero" ["self", "number"] (spIs C isZ)) (MShrinker_is_one:MethOk P w K mg base CX0 k C "is_one" ["self", "number"] (spIs C isO)) (MShrinker_opposite:MethOk P w K mg base CX0 k C "opposite" ["self", "number"] (spOpp C)) (Dplain_pair:DefOk P w K mg base CX0 k "plain_pair" ["shrinker", "gate"] (spPl C)):FnOk P w K mg base CX0 (k + 1) f fd ["shrinker", "x", "y", "z"] (spPickP C):=by
 have nd:=scPickP.nd;refine F.ok scPickP (fun vs H Q E h=>by obtain ⟨y0,gl,d,gs,x,y,z,rfl,_⟩:=h; rfl) (fun cdv A outer s0 H vs Q E hr h=>?_)
 obtain ⟨y0,gl,d,gs,x,y,z,rfl,r0,lx,ly,lz,sz,q⟩:=h;unfold nV;refine ⟨_,(Pr.h (aj (aw (br (bK (aU (aW (qv av49 0 rfl) MShrinker_is_one hr pass0 (aa (qv av49 1 rfl) ab ae))) (bR (ay aB (qv av49 2 rfl) (qv av49 3 rfl) (nomark _))))) (ai (au (aD (aa (qv av49 2 rfl) (aa aq ab ax) ae)))) az) (aj (aw (aU (aW (qv av49 0 rfl) MShrinker_is_zero hr pass0 (aa (qv av49 1 rfl) ab ae))) (ai (au (aD (aa (qv av49 3 rfl) (aa aq ab ax) ae)))) az) (aj (aw (br (bZ (aU (aW (qv av49 0 rfl) MShrinker_is_one hr pass0 (aa (qv av49 2 rfl) ab ae))) (cI (aU (aW (qv av49 0 rfl) MShrinker_is_zero hr pass0 (aa (qv av49 3 rfl) ab ae)))))) (ai (au (aD (aa (qv av49 1 rfl) (aa aq ab ax) ae)))) az) (aj (aw (br (bZ (aU (aW (qv av49 0 rfl) MShrinker_is_zero hr pass0 (aa (qv av49 2 rfl) ab ae))) (cI (aU (aW (qv av49 0 rfl) MShrinker_is_one hr pass0 (aa (qv av49 3 rfl) ab ae)))))) (ai (au (aD (aa (aW (qv av49 0 rfl) MShrinker_opposite hr pass0 (aa (qv av49 1 rfl) ab ae)) (aa aq ab ax) bb)))) az) (ai (au (av Dplain_pair hr (gl49.g 0 rfl) pass0 (aa (qv av49 0 rfl) (aa (aD (aa aq (aa (qv av49 1 rfl) (aa (qv av49 2 rfl) (aa (qv av49 3 rfl) ab ae) ae) ae) ax)) ab bw) ae) eK)))))))),?_⟩
 (try dsimp only [cxOf])
 obtain ⟨⟨dy,hy0⟩,_,_⟩:=id r0;have c0:=Ch.refl [] H;obtain ⟨fl,fk,fz,fo,fp,fiz,fio,fao⟩:=fsn gl d;walk_at "rd";rename_i H1 d1
 dsimp only
 have c1:=c0.trans d1;have r1:=r0.ch d1;have hy1:=d1.get hy0 (by simp)
 clear d1 c0 r0 hy0;refine ite2 (fun h0=>?_) (fun h0=>?_)
 ·rw [show pickP gs x y z=((gs,y, "second"):Rs) from by unfold pickP; simp [h0]] at q
  walk_at "rd";rename_i T hT;exact q.of _ _ ((Ch.wk c1).trans (Ch.new hT _)) ah (r1.ch (Ch.new hT _))
 ·walk_at "rd"
  refine ite2 (fun ez=>?_) (fun ez=>?_)
  ·have h1:y=z:=by simp at ez; omega
   clear ez;rw [show pickP gs x y z=((gs,y, "second"):Rs) from by unfold pickP; simp [h0,h1]] at q
   walk_at "rd";rename_i T hT;exact q.of _ _ ((Ch.wk c1).trans (Ch.new hT _)) ah (r1.ch (Ch.new hT _))
  ·have h1:¬ y=z:=by simp at ez; omega
   clear ez;walk_at "rd";rename_i H2 d2
   dsimp only
   have c2:=c1.trans d2;have r2:=r1.ch d2;have hy2:=d2.get hy1 (by simp)
   clear d2 c1 r1 hy1;refine ite2 (fun h2=>?_) (fun h2=>?_)
   ·rw [show pickP gs x y z=((gs,z, "third"):Rs) from by unfold pickP; simp [h0,h1,h2]] at q
    walk_at "rd";rename_i T hT;exact q.of _ _ ((Ch.wk c2).trans (Ch.new hT _)) ah (r2.ch (Ch.new hT _))
   ·walk_at "rd"
    rename_i H3 d3
    dsimp only
    have c3:=c2.trans d3;have r3:=r2.ch d3;have hy3:=d3.get hy2 (by simp)
    clear d3 c2 r2 hy2;refine ite2 (fun h3=>?_) (fun h3=>?_)
    ·walk_at "rd"
     rename_i H4 d4
     dsimp only
     have c4:=c3.trans d4;have r4:=r3.ch d4;have hy4:=d4.get hy3 (by simp)
     clear d4 c3 r3 hy3;refine ite2 (fun h4=>?_) (fun h4=>?_)
     ·rw [show pickP gs x y z=((gs,x, "first"):Rs) from by unfold pickP; simp [h0,h1,h2,h3,h4]] at q
      walk_at "rd";rename_i T hT;exact q.of _ _ ((Ch.wk c4).trans (Ch.new hT _)) ah (r4.ch (Ch.new hT _))
     ·walk_at "rd"
      rename_i H5 d5
      dsimp only
      have c5:=c4.trans d5;have r5:=r4.ch d5;have hy5:=d5.get hy4 (by simp)
      clear d5 c4 r4 hy4;refine ite2 (fun h5=>?_) (fun h5=>?_)
      ·exfalso; simp only [isZ,isO,zC] at h3 h5; rw [h3] at h5; cases h5
      ·rw [show pickP gs x y z=plain gs (.pick x y z) from by unfold pickP; simp [h0,h1,h2,h3,h4,h5]] at q
       walk_at "rd";rename_i T hT;exact ⟨(show _=some (HO.tup (Gt.vs (.pick x y z))) from ah),rfl,sz,q.ch (c5.trans (Ch.new hT _))⟩
    ·walk_at "rd"
     rename_i H4 d4
     dsimp only
     have c4:=c3.trans d4;have r4:=r3.ch d4;have hy4:=d4.get hy3 (by simp)
     clear d4 c3 r3 hy3;refine ite2 (fun h4=>?_) (fun h4=>?_)
     ·walk_at "rd"
      rename_i H5 d5
      dsimp only
      have c5:=c4.trans d5;have r5:=r4.ch d5;have hy5:=d5.get hy4 (by simp)
      clear d5 c4 r4 hy4;refine ite2 (fun h5=>?_) (fun h5=>?_)
      ·rw [show pickP gs x y z=(((opp gs x).1,(opp gs x).2, "not"):Rs) from by unfold pickP; simp [h0,h1,h2,h3,h4,h5]] at q
       walk_at "rd";rename_i H9 c9 r9 T hT;exact q.of _ _ (((Ch.wk c5).trans c9).trans (Ch.new hT _)) ah (r9.ch (Ch.new hT _))
      ·rw [show pickP gs x y z=plain gs (.pick x y z) from by unfold pickP; simp [h0,h1,h2,h3,h4,h5]] at q
       walk_at "rd";rename_i T hT;exact ⟨(show _=some (HO.tup (Gt.vs (.pick x y z))) from ah),rfl,sz,q.ch (c5.trans (Ch.new hT _))⟩
     ·rw [show pickP gs x y z=plain gs (.pick x y z) from by unfold pickP; simp [h0,h1,h2,h3,h4]] at q
      walk_at "rd";rename_i T hT;exact ⟨(show _=some (HO.tup (Gt.vs (.pick x y z))) from ah),rfl,sz,q.ch (c4.trans (Ch.new hT _))⟩
end
end

section
local macro_rules | `(tactic| walk_at "user")=>`(tactic| first
 | (apply ShAt.ch; (focus with_reducible assumption); (focus walk_at "ch"))
 | exact Gt.vs_sca _)
theorem vI {X:Cx}{CX:CXT}{k:Nat}{x:Str}{sp:Sp}{E:XK}{p pos:Pos} (D:MakeOk X.prog X.w X.K X.mg X.base CX k C x ps sp) (hr:Room (k + 1) X.A) (hg:Gl X x) (hx:Passes CX X E) (hdb:(x == ("__debug__" : Str))=false:=by decide) :
  Pr (PE X (.Call (.Name x p) [] [] pos) (tMake C sp [] E tNil)):=by
 obtain ⟨f,fd,F,b,M,hm⟩:=D.ex;exact ⟨qC M F hr hg hm b .nil hx hdb⟩
theorem Ch.forget {W:List Addr} (c:Ch W H H') (h:∀ w∈W,H w=none):Ch [] H H':=fun a o e _=>c a o e fun z=>by rw [h a z] at e; cases e
theorem Ch.inst{x C:Addr} (hx:H x=none) (hd:H dx=none) (n:dx≠x):Ch [] H (upd (upd H dx (.own x)) x (.ins C dx [])):=(Ch.new hd _).trans (Ch.new (by rw [aR n.symm]; exact hx) _)
theorem Ch.two {H1 H2:Hp}{a b:Addr} (c:Ch [] H0 H1) (c2:Ch [a,b] H1 H2) (ha:H0 a=none) (hb:H0 b=none):Ch [] H0 H2 :=
 Ch.forget ((Ch.wk c).trans c2) (by simp only [yZ,ze,zh]; rintro w (rfl | rfl) <;> assumption)
abbrev SS:=List Gt × List (Nat × Str)
def rho (prs:List (Nat × Str)) (a:Nat):Nat:=(prs.getD a (0,Str.empty)).1
def stp (s:SS) (g:Gt):SS:=if g.src then (s.1++[g],s.2++[(s.1.length,g.wd)]) else ((gpair s.1 (rho s.2) g).1,s.2++[(gpair s.1 (rho s.2) g).2])
def shr (net:List Gt):SS:=net.foldl stp ([],[])
theorem iR (h:net[i]?=some g):shr (net.take (i + 1))=stp (shr (net.take i)) g:=by
 unfold shr;rw [zx,h,List.foldl_append];rfl
def Gt.big:Gt->Bool
 | .inp=>false
 | .zero=>false
 | .one=>false
 | _=>true
structure SI (net:List Gt) (i:Nat) (s:SS):Prop where
 len:s.2.length=i
 lt:∀ (j:Nat) (p:Nat × Str),s.2[j]?=some p->p.1 < s.1.length
 wf:WF s.1
 sz:s.1.length<=i
 src:∀ (j:Nat) (g:Gt) (p:Nat × Str),net[j]?=some g->s.2[j]?=some p->g.src=true->s.1[p.1]?=some g
 kp:∀ (n:Nat) (g:Gt),s.1[n]?=some g->g.src=true->∃ (j:Nat) (p:Nat × Str),net[j]?=some g/\s.2[j]?=some p/\p.1=n
 inj:∀ (j j':Nat) (g g':Gt) (p p':Nat × Str),net[j]?=some g->net[j']?=some g'->s.2[j]?=some p->s.2[j']?=some p'->g.src=true->g'.src=true->p.1=p'.1->j=j'
 ci:∀ t:Gt->Bool,(∀ g,t g=true->g.src=true)->s.1.countP t=(net.take i).countP t
 cb:s.1.countP Gt.big<=(net.take i).countP Gt.big
 od:∀ (j:Nat) (g:Gt) (p:Nat × Str),net[j]?=some g->s.2[j]?=some p->g.src=true->∀ t:Gt->Bool,(∀ g,t g=true->g.src=true)->(s.1.take p.1).countP t=(net.take j).countP t
theorem SI.zero (net:List Gt):SI net 0 ([],[]):=⟨rfl,fun j p h=>by simp at h,⟨fun i g h=>by simp at h,fun i j g h e=>by simp at e⟩,yP _,fun j g p _ h=>by simp at h,fun n g h=>by simp at h,fun j j' g g' p p' _ _ h=>by simp at h,fun t _=>rfl,yP _,fun j g p _ h=>by simp at h⟩
theorem SI.rho {net:List Gt}{i:Nat}{s:SS} (h:SI net i s) {a:Nat} (ha:a < i):∃ p,s.2[a]?=some p/\rho s.2 a=p.1/\p.1 < s.1.length:=by
 have hl:a < s.2.length:=by rw [h.len]; exact ha
 refine ⟨_,yO hl,?_,h.lt a _ (yO hl)⟩;unfold B17.rho;rw [zi,yO hl]; rfl
theorem Ext.at {gs:List Gt} (h:Ext gs r) (e:gs[j]?=some g):r.1[j]?=some g:=by
 rcases h with ⟨z,_⟩ | ⟨g',m,z,_⟩
 ·rw [z]; exact e
 ·rw [z]
  unfold like
  split
  ·exact e
  ·rw [zb (yR.mp e).1]; exact e
theorem bT {α:Type}{l:List α}{x y:α} (e:(l++[x])[i]?=some y):(i < l.length/\l[i]?=some y)\/(i=l.length/\y=x):=by
 by_cases hi:i < l.length
 ·rw [zb hi] at e; exact .inl ⟨hi,e⟩
 ·rw [zw (by omega)] at e
  have hi0:i - l.length=0:=by
   rcases AW (i - l.length) with z | z
   ·exact z
   ·rw [Ad (by simp; omega)] at e; cases e
  rw [hi0] at e;exact .inr ⟨by omega,by simpa using e.symm⟩
theorem SI.ext {net:List Gt}{i:Nat}{s:SS} (h:SI net i s) (ok:g.ok i net.length) (hs:g.src=false):Ext s.1 (gpair s.1 (B17.rho s.2) g) :=
 vg h.wf hs fun a ha=>by obtain ⟨p,_,e,l⟩:=h.rho (da ok hs a ha); rw [e]; exact l
theorem vJ{h:Gt} (hs:h.src=false) (e:(like gs h).1[n]?=some g) (hg:g.src=true):gs[n]?=some g:=by
 unfold like at e
 split at e
 ·exact e
 ·rcases dM e with ⟨_,e⟩ | ⟨_,rfl⟩
  ·exact e
  ·rw [hs] at hg; cases hg
theorem Ext.srcs{r:Rs} (h:Ext gs r) (e:r.1[n]?=some g) (hg:g.src=true):gs[n]?=some g:=by
 rcases h with ⟨z,_⟩ | ⟨h',m,z,_⟩
 ·rw [<- z]; exact e
 ·rw [z] at e; exact vJ m.s e hg
theorem lQ (t:Gt->Bool) (gs:List Gt) (h:Gt):(like gs h).1.countP t<=gs.countP t + if t h then 1 else 0:=by
 unfold like
 split
 ·simp
 ·rw [Ae]; simp
theorem Ext.ins (h:Ext gs r) {t:Gt->Bool} (ht:∀ g,t g=true->g.src=true):r.1.countP t=gs.countP t:=by
 rcases h with ⟨z,_⟩ | ⟨h',m,z,_⟩
 ·rw [z]
 ·rw [z]
  have hi:t h'=false:=by
   cases e:t h' with
   | false=>rfl
   | true=>have:=ht h' e; rw [m.s] at this; cases this
  unfold like
  split
  ·rfl
  ·rw [Ae]; simp [hi]
theorem Ext.pre (h:Ext gs r) (hn:n<=gs.length):r.1.take n=gs.take n:=by
 rcases h with ⟨z,_⟩ | ⟨h',m,z,_⟩
 ·rw [z]
 ·rw [z]
  unfold like
  split
  ·rfl
  ·exact A9 hn
theorem Ext.big (h:Ext gs (gpair gs ρ g)):(gpair gs ρ g).1.countP Gt.big<=gs.countP Gt.big + if g.big then 1 else 0:=by
 cases hb:g.big with
 | true =>
  rcases h with ⟨z,_⟩ | ⟨h',m,z,_⟩
  ·rw [z]; simp
  ·rw [z]
   have:=lQ Gt.big gs h'
   split at this <;> simp <;> omega
 | false =>
  cases g <;> first | (cases hb; done) | exact lQ Gt.big gs _
theorem SI.step{s:SS} (h:SI net i s) (e:net[i]?=some g) (ok:g.ok i net.length):SI net (i + 1) (stp s g):=by
 unfold stp;cases hs:g.src with
 | true =>
  rw [yN rfl];refine ⟨by simp [h.len],fun j p z=>?_,h.wf.lay hs,by have:=h.sz; simp; omega,fun j g' p z1 z2 z3=>?_,fun n g' z1 z2=>?_,fun j j' g1 g2 p p' z1 z2 z3 z4 z5 z6 z7=>?_,fun t ht=>?_,?_,fun j g' p z1 z2 z3 t ht=>?_⟩
  ·rcases bT z with ⟨_,z⟩ | ⟨_,rfl⟩
   ·have:=h.lt j p z; simp; omega
   ·simp
  ·rcases bT z2 with ⟨_,z⟩ | ⟨z,rfl⟩
   ·have:=h.src j g' p z1 z z3
    rw [zb (yR.mp this).1]; exact this
   ·rw [z,h.len,e] at z1
    cases z1;simp
  ·rcases bT z1 with ⟨_,z⟩ | ⟨z,rfl⟩
   ·obtain ⟨j,p,a,b,c⟩:=h.kp n g' z z2
    exact ⟨j,p,a,by rw [zb (yR.mp b).1]; exact b,c⟩
   ·exact ⟨i,(s.1.length,g'.wd),e,by rw [<- h.len]; simp,z.symm⟩
  ·rcases bT z3 with ⟨_,y3⟩ | ⟨y3,e3⟩
   ·rcases bT z4 with ⟨_,y4⟩ | ⟨y4,e4⟩
    ·exact h.inj j j' g1 g2 p p' z1 z2 y3 y4 z5 z6 z7
    ·have:=h.lt j p y3; rw [z7,e4] at this; exact absurd this (zN _)
   ·rcases bT z4 with ⟨_,y4⟩ | ⟨y4,e4⟩
    ·have:=h.lt j' p' y4; rw [<- z7,e3] at this; exact absurd this (zN _)
    ·rw [y3,y4]
  ·rw [zx,e,Ae,Ae,h.ci t ht]; rfl
  ·rw [zx,e,Ae,Ae]; exact Nat.add_le_add_right h.cb _
  ·rcases bT z2 with ⟨_,y2⟩ | ⟨y2,e2⟩
   ·rw [A9 (zF (h.lt j p y2))]; exact h.od j g' p z1 y2 z3 t ht
   ·rw [e2,y2,h.len,A9 (yP _),zu]; exact h.ci t ht
 | false =>
  rw [yM (by simp)]
  have x:=h.ext ok hs;obtain ⟨w1,w2,w3⟩:=x.wf h.wf;refine ⟨by simp [h.len],fun j p z=>?_,w1,by have:=x.len; have:=h.sz; simp; omega,fun j g' p z1 z2 z3=>?_,fun n g' z1 z2=>?_,fun j j' g1 g2 p p' z1 z2 z3 z4 z5 z6 z7=>?_,fun t ht=>?_,?_,fun j g' p z1 z2 z3 t ht=>?_⟩
  ·rcases bT z with ⟨_,z⟩ | ⟨_,rfl⟩
   ·have:=h.lt j p z; simp; omega
   ·exact w2
  ·rcases bT z2 with ⟨_,z⟩ | ⟨z,rfl⟩
   ·exact x.at (h.src j g' p z1 z z3)
   ·rw [z,h.len,e] at z1
    cases z1;rw [hs] at z3; cases z3
  ·obtain ⟨j,p,a,b,c⟩:=h.kp n g' (x.srcs z1 z2) z2
   exact ⟨j,p,a,by rw [zb (yR.mp b).1]; exact b,c⟩
  ·rcases bT z3 with ⟨_,y3⟩ | ⟨y3,e3⟩
   ·rcases bT z4 with ⟨_,y4⟩ | ⟨y4,e4⟩
    ·exact h.inj j j' g1 g2 p p' z1 z2 y3 y4 z5 z6 z7
    ·rw [y4,h.len,e] at z2
     cases z2;rw [hs] at z6; cases z6
   ·rw [y3,h.len,e] at z1
    cases z1;rw [hs] at z5; cases z5
  ·have ni:t g=false:=by
    cases e:t g with
    | false=>rfl
    | true=>have:=ht g e; rw [hs] at this; cases this
   rw [zx,e,Ae];show (gpair s.1 (B17.rho s.2) g).1.countP t=_;rw [x.ins ht,h.ci t ht];simp [ni]
  ·rw [zx,e,Ae]
   show (gpair s.1 (B17.rho s.2) g).1.countP Gt.big<=_;have:=x.big;have:=h.cb;have e9:List.countP Gt.big (some g).toList=if g.big then 1 else 0:=by simp [AI]
   rw [e9];omega
  ·rcases bT z2 with ⟨_,y2⟩ | ⟨y2,_⟩
   ·show ((gpair s.1 (B17.rho s.2) g).1.take p.1).countP t=_
    rw [x.pre (zF (h.lt j p y2))]; exact h.od j g' p z1 y2 z3 t ht
   ·rw [y2,h.len,e] at z1
    cases z1;rw [hs] at z3; cases z3
theorem SI.all (ok:Oks net):∀ i,i<=net.length->SI net i (shr (net.take i))
 | 0,_=>SI.zero net
 | i + 1,hi=>by
  have e:net[i]?=some net[i]:=yO (by omega)
  rw [iR e];exact (SI.all ok i (by omega)).step e (ok _ _ e)
def ref1 (prs:List (Nat × Str)) (gs:List Gt) (gp:Gt × (Nat × Str)):List Gt:=match gp.1 with
 | .keep f a=>gs.set gp.2.1 (.keep f (rho prs a))
 | _=>gs
def refd (net:List Gt) (prs:List (Nat × Str)) (gs:List Gt) (i:Nat):List Gt:=((net.zip prs).take i).foldl (ref1 prs) gs
theorem lS{p:Nat × Str} (h1:net[i]?=some g) (h2:prs[i]?=some p):refd net prs gs (i + 1)=ref1 prs (refd net prs gs i) (g,p):=by
 unfold refd;have:(net.zip prs)[i]?=some (g,p):=by rw [zP]; exact ⟨h1,h2⟩
 rw [zx,this,List.foldl_append];rfl
theorem vK (prs:List (Nat × Str)) (gs:List Gt) (gp:Gt × (Nat × Str)):(ref1 prs gs gp).length=gs.length:=by
 unfold ref1; split <;> simp
theorem vL (net:List Gt) (prs:List (Nat × Str)) (gs:List Gt) (i:Nat):(refd net prs gs i).length=gs.length:=by
 unfold refd;generalize (net.zip prs).take i=l
 induction l generalizing gs with
 | nil=>rfl
 | cons x l ih=>rw [List.foldl_cons,ih,vK]
def gsF (net:List Gt):List Gt:=refd net (shr net).2 (shr net).1 net.length
structure Prs (H:Hp) (prs:List (Nat × Str)) (ps:List V):Prop where
 len:ps.length=prs.length
 at_:∀ (i:Nat) (p:Nat × Str),prs[i]?=some p->∃ a,ps[i]?=some (.ref a)/\H a=some (.tup [nV p.1,.str p.2])
theorem Prs.tu {H:Hp}{ps:List V} (h:Prs H prs ps) (t:Tu H H'):Prs H' prs ps:=⟨h.len,fun i g e=>let ⟨p,a,b⟩:=h.at_ i g e; ⟨p,a,t p _ b⟩⟩
theorem Prs.push{ps:List V}{a:Addr}{p:Nat × Str} (h:Prs H prs ps) (ha:H a=some (.tup [nV p.1,.str p.2])):Prs H (prs++[p]) (ps++[.ref a]):=by
 refine ⟨by simp [h.len],fun i x e=>?_⟩
 rcases bT e with ⟨hi,e⟩ | ⟨rfl,rfl⟩
 ·obtain ⟨b,h1,h2⟩:=h.at_ i x e
  exact ⟨b,by rw [zb (by rw [h.len]; exact hi)]; exact h1,h2⟩
 ·exact ⟨a,by rw [<- h.len]; simp,ha⟩
section
variable {P:Program}{w:World}{K:PySem.W.Frag}{mg:Str->Option Value}{base:Heap}{f:Addr}{fd:FuncData}{k:Nat}
theorem vM:Nd "not_pair" := ∅
theorem vN:Nd "and_pair" := ∅
theorem vO:Nd "or_pair" := ∅
theorem vP:Nd "xor_pair" := ∅
theorem vQ:Nd "pick_pair" := ∅
theorem av50:AF (defScope (top 50)) ["shrinker", "gate", "feeds"]:=⟨∅⟩
theorem gl50:AG (defScope (top 50)) ["not_pair", "and_pair", "or_pair", "xor_pair", "pick_pair", "plain_pair"]:=⟨∅⟩
def spGp (C:Addr):Sp:=fun vs H Q _=>∃ (y p fl gl d:Addr) (gs:List Gt) (g:Gt) (ρ:Nat->Nat),vs=[.ref y,.ref p,.ref fl]/\ShAt C H y gl d gs/\H p=some (.tup g.vs)/\g.src=false/\H fl=some (.lst (g.feeds.map fun a=>nV (ρ a)))/\(∀ a∈g.feeds,ρ a < gs.length)/\gs.length<=900/\PR C y gl d H Q (gpair gs ρ g)
theorem scGp:FnScope ["shrinker", "gate", "feeds"] ["shrinker", "gate", "feeds"] (defScope (top 50)):=⟨rfl,rfl,rfl,∅,rfl,∅,∅⟩
theorem vR (F:Fun K "gate_pair" "gate_pair" (top 50) f fd) (Dnot_pair:DefOk P w K mg base CX0 k "not_pair" ["shrinker", "x"] (spNotP C)) (Dand_pair:DefOk P w K mg base CX0 k "and_pair" ["shrinker", "x", "y"] (spAndP C)) (Dor_pair:DefOk P w K mg base CX0 k "or_pair" ["shrinker", "x", "y"] (spOrP C))
  (Dxor_pair:DefOk P w K mg base CX0 k "xor_pair" ["shrinker", "x", "y"] (spXorP C)) (Dpick_pair:DefOk P w K mg base CX0 k "pick_pair" ["shrinker", "x", "y", "z"] (spPickP C)) (Dplain_pair:DefOk P w K mg base CX0 k "plain_pair" ["shrinker", "gate"] (spPl C)):FnOk P w K mg base CX0 (k + 1) f fd ["shrinker", "gate", "feeds"] (spGp C):=by
 have nd:=scGp.nd;refine F.ok scGp (fun vs H Q E h=>by obtain ⟨y,p,fl,gl,d,gs,g,ρ,rfl,_⟩:=h; rfl) (fun cdv A outer s0 H vs Q E hr h=>?_)
 obtain ⟨y,p,fl,gl,d,gs,g,ρ,rfl,r,hp,hs,hf,lf,sz,q⟩:=h;refine ⟨_,(Pr.h (aj (aw (ay aB (ak aH (qv av50 1 rfl) ag (fun _ _=>rfl)) aq (nomark _)) (ai (au (av Dnot_pair hr (gl50.g 0 rfl) pass0 (aa (qv av50 0 rfl) (aa (ak aC (qv av50 2 rfl) ag (fun _ _=>rfl)) ab aK) ae) vM))) az) (aj (aw (ay aB (ak aH (qv av50 1 rfl) ag (fun _ _=>rfl)) aq (nomark _)) (ai (au (av Dand_pair hr (gl50.g 1 rfl) pass0 (aa (qv av50 0 rfl) (aa (ak aC (qv av50 2 rfl) ag (fun _ _=>rfl)) (aa (ak aC (qv av50 2 rfl) ag (fun _ _=>rfl)) ab aK) aK) ae) vN))) az) (aj (aw (ay aB (ak aH (qv av50 1 rfl) ag (fun _ _=>rfl)) aq (nomark _)) (ai (au (av Dor_pair hr (gl50.g 2 rfl) pass0 (aa (qv av50 0 rfl) (aa (ak aC (qv av50 2 rfl) ag (fun _ _=>rfl)) (aa (ak aC (qv av50 2 rfl) ag (fun _ _=>rfl)) ab aK) aK) ae) vO))) az) (aj (aw (ay aB (ak aH (qv av50 1 rfl) ag (fun _ _=>rfl)) aq (nomark _)) (ai (au (av Dxor_pair hr (gl50.g 3 rfl) pass0 (aa (qv av50 0 rfl) (aa (ak aC (qv av50 2 rfl) ag (fun _ _=>rfl)) (aa (ak aC (qv av50 2 rfl) ag (fun _ _=>rfl)) ab aK) aK) ae) vP))) az) (aj (aw (ay aB (ak aH (qv av50 1 rfl) ag (fun _ _=>rfl)) aq (nomark _)) (ai (au (av Dpick_pair hr (gl50.g 4 rfl) pass0 (aa (qv av50 0 rfl) (aa (ak aC (qv av50 2 rfl) ag (fun _ _=>rfl)) (aa (ak aC (qv av50 2 rfl) ag (fun _ _=>rfl)) (aa (ak aC (qv av50 2 rfl) ag (fun _ _=>rfl)) ab aK) aK) aK) ae) vQ))) az) (ai (au (av Dplain_pair hr (gl50.g 5 rfl) pass0 (aa (qv av50 0 rfl) (aa (qv av50 1 rfl) ab ae) ae) eK))))))))),?_⟩
 (try dsimp only [cxOf])
 cases g with
 | inp=>cases hs
 | keep _ _=>cases hs
 | zero =>
  have hp0:H p=some (.tup [.str "zero"]):=hp;have q:PR C y gl d H Q (plain gs .zero):=q;walk_at "rd"
 | one =>
  have hp0:H p=some (.tup [.str "one"]):=hp;have q:PR C y gl d H Q (plain gs .one):=q;walk_at "rd"
 | not a =>
  have hp0:H p=some (.tup [.str "not",.int a]):=hp;have hf:H fl=some (.lst [nV (ρ a)]):=hf;have l1:=lf a (by simp [Gt.feeds])
  have q:PR C y gl d H Q (notP gs (ρ a)):=q;walk_at "rd"
 | and a b =>
  have hp0:H p=some (.tup [.str "and",.int a,.int b]):=hp;have hf:H fl=some (.lst [nV (ρ a),nV (ρ b)]):=hf;have l1:=lf a (by simp [Gt.feeds])
  have l2:=lf b (by simp [Gt.feeds])
  have q:PR C y gl d H Q (andP gs (ρ a) (ρ b)):=q;walk_at "rd"
 | or a b =>
  have hp0:H p=some (.tup [.str "or",.int a,.int b]):=hp;have hf:H fl=some (.lst [nV (ρ a),nV (ρ b)]):=hf;have l1:=lf a (by simp [Gt.feeds])
  have l2:=lf b (by simp [Gt.feeds])
  have q:PR C y gl d H Q (orP gs (ρ a) (ρ b)):=q;walk_at "rd"
 | xor a b =>
  have hp0:H p=some (.tup [.str "xor",.int a,.int b]):=hp;have hf:H fl=some (.lst [nV (ρ a),nV (ρ b)]):=hf;have l1:=lf a (by simp [Gt.feeds])
  have l2:=lf b (by simp [Gt.feeds])
  have q:PR C y gl d H Q (xorP gs (ρ a) (ρ b)):=q;walk_at "rd"
 | pick a b c =>
  have hp0:H p=some (.tup [.str "pick",.int a,.int b,.int c]):=hp;have hf:H fl=some (.lst [nV (ρ a),nV (ρ b),nV (ρ c)]):=hf;have l1:=lf a (by simp [Gt.feeds])
  have l2:=lf b (by simp [Gt.feeds])
  have l3:=lf c (by simp [Gt.feeds])
  have q:PR C y gl d H Q (pickP gs (ρ a) (ρ b) (ρ c)):=q;walk_at "rd"
end
end

section
local macro_rules | `(tactic| walk_at "user")=>`(tactic| first
 | (apply ShAt.ch; (focus with_reducible assumption); (focus walk_at "ch"))
 | exact Gt.vs_sca _)
structure SW (C:Addr) (H0 H:Hp) (y gl d pl:Addr) (s:SS):Prop where
 ch:Ch [] H0 H
 sh:ShAt C H y gl d s.1
 pl:∃ ps,H pl=some (.lst ps)/\Prs H s.2 ps
structure SF (H0:Hp) (gl d pl:Addr):Prop where
 g:H0 gl=none
 d:H0 d=none
 p:H0 pl=none
theorem SW.same{H:Hp}{y d:Addr}{s:SS} (h:SW C H0 H y gl d pl s) (c:Ch [] H H1):SW C H0 H1 y gl d pl s :=
 ⟨h.ch.trans c,h.sh.ch c,let ⟨ps,a,b⟩:=h.pl; ⟨ps,c.get a (by simp),b.tu (Tu.same c)⟩⟩
theorem SW.put{y d a:Addr}{ps:List V}{p:Nat × Str} (ch:Ch [] H0 H) (sh:ShAt C H y gl d gs) (hp:H pl=some (.lst ps)) (pp:Prs H prs ps) (f:SF H0 gl d pl) (ng:pl≠gl) (ha:H a=some (.tup [nV p.1,.str p.2])) :
  SW C H0 (upd H pl (.lst (ps++[.ref a]))) y gl d pl (gs,prs++[p]):=by
 obtain ⟨⟨dy,hy⟩,⟨xs,hg,gg⟩,⟨kvs,hd,nm⟩⟩:=sh;refine ⟨Ch.own f.p ch,⟨⟨dy,aJ (aV hy hp (by intro z; cases z)) hy⟩,⟨xs,aJ ng.symm hg,gg.tu (Tu.lst Ch.put hp)⟩,⟨kvs,aJ (aV hd hp (by intro z; cases z)) hd,nm⟩⟩,_,ah,(pp.push ha).tu (Tu.lst Ch.put hp)⟩
theorem vS:∀ g:Gt,inV (.str g.wd) [.str "in",.str "keep"]=g.src
 | .inp=>(by decide +kernel:inV (.str "in") [.str "in",.str "keep"]=true)
 | .zero=>(by decide +kernel:inV (.str "zero") [.str "in",.str "keep"]=false)
 | .one=>(by decide +kernel:inV (.str "one") [.str "in",.str "keep"]=false)
 | .keep _ _=>(by decide +kernel:inV (.str "keep") [.str "in",.str "keep"]=true)
 | .not _=>(by decide +kernel:inV (.str "not") [.str "in",.str "keep"]=false)
 | .and _ _=>(by decide +kernel:inV (.str "and") [.str "in",.str "keep"]=false)
 | .or _ _=>(by decide +kernel:inV (.str "or") [.str "in",.str "keep"]=false)
 | .xor _ _=>(by decide +kernel:inV (.str "xor") [.str "in",.str "keep"]=false)
 | .pick _ _ _=>(by decide +kernel:inV (.str "pick") [.str "in",.str "keep"]=false)
section
variable {P:Program}{w:World}{K:PySem.W.Frag}{mg:Str->Option Value}{base:Heap}{f:Addr}{fd:FuncData}{k:Nat}
theorem vT:Nd "Shrinker" := ∅
theorem fA:Nd "feeds_of" := ∅
theorem vU:Nd "gate_pair" := ∅
theorem av51:AF (defScope (top 51)) ["net", "shrinker", "pairs", "gate", "pair"]:=⟨∅⟩
theorem gl51:AG (defScope (top 51)) ["Shrinker", "gate_pair", "feeds_of", "zip"]:=⟨∅⟩
def iS:Scope:=⟨.function,[(".0",.local),("feed",.local),("pairs",.free)],false,false,[]⟩
theorem lT:CompOk iS (defScope (top 51)) (["feed"]:List Str) (["net", "shrinker", "pairs", "gate", "pair"]:List Str) [2] (["feed", "pairs"]:List Str):=compOk rfl ∅ ∅ ∅ ∅ rfl ∅
theorem lU:AK (relab iS (defScope (top 51))) ["feed"]:=⟨∅⟩
theorem lV:AV (relab iS (defScope (top 51))) ["feed", "pairs"]:=⟨∅⟩
def spShk (CN:Addr):Sp:=fun vs H Q _=>∃ (nt gp op:Addr) (net:List Gt) (xs:List V) (os:List Nat),vs=[.ref nt]/\NetAt CN H nt gp op net xs os/\Oks net/\net.length<=200 /\
 ∀ (R gl pl:Addr) (xs' ps:List V) (H':Hp),Ch [] H H'->H' R=some (.tup [.ref gl,.ref pl])->H' gl=some (.lst xs')->Gs H' (gsF net) xs'->H' pl=some (.lst ps)->Prs H' (shr net).2 ps->Q (.ref R) H'
theorem scShk:FnScope ["net", "shrinker", "pairs", "gate", "pair"] ["net"] (defScope (top 51)):=⟨rfl,rfl,rfl,∅,rfl,∅,∅⟩
theorem vV (F:Fun K "shrunk" "shrunk" (top 51) f fd) (clN:Cls K CN) (nNG:NoAttr K CN "gates") (cl:Cls K C) (nG:NoAttr K C "gates") (MkShrinker:MakeOk P w K mg base CX0 k C "Shrinker" ["self"] (spShr C)) (MShrinker_lay:MethOk P w K mg base CX0 (k + 1) C "lay" ["self", "gate"] (spLay C))
  (Dgate_pair:DefOk P w K mg base CX0 (k + 1) "gate_pair" ["shrinker", "gate", "feeds"] (spGp C)) (Dfeeds_of:DefOk P w K mg base CX0 (k + 1) "feeds_of" ["gate"] spFeeds) (z_zip:mg "zip" = none):FnOk P w K mg base CX0 (k + 2) f fd ["net"] (spShk CN):=by
 have nd:=scShk.nd;refine F.ok scShk (fun vs H Q E h=>by obtain ⟨nt,gp,op,net,xs,os,rfl,_⟩:=h; rfl) (fun cdv A outer s0 H vs Q E hr h=>?_)
 obtain ⟨nt,gp,op,net,xs,os,rfl,⟨⟨dn,hn⟩,hg,gg,ho⟩,ok,sz,q⟩:=h;have hrm:=hr;refine ⟨_,(Pr.h (aj (aE (i:=1) nd rfl (av51.l 1 rfl) (vI MkShrinker hrm (gl51.g 0 rfl) pass0 vT)) (aj (aE (i:=2) nd rfl (av51.l 2 rfl) (bD ab)) (aj (bB zm rfl (eY (aT (qv av51 0 rfl) rfl)) (aG (i:=3) nd rfl (av51.l 3 rfl)) (ai (aw (ay ig (ak aH (qv av51 3 rfl) ag (fun _ _=>rfl)) (aD (aa aq (aa aq ab ax) ax)) rfl) (ai (bM (cm zM zW zX cC (qv av51 2 rfl) (aa (aD (aa (aW (qv av51 1 rfl) MShrinker_lay hr pass0 (aa (qv av51 3 rfl) ab ae)) (aa (ak aH (qv av51 3 rfl) ag (fun _ _=>rfl)) ab aK) bb)) ab bw)))) (ai (bM (cm zM zW zX cC (qv av51 2 rfl) (aa (av Dgate_pair hr (gl51.g 1 rfl) pass0 (aa (qv av51 1 rfl) (aa (qv av51 3 rfl) (aa (cq rfl lT (cf (av Dfeeds_of hr (gl51.g 2 rfl) pass0 (aa (qv av51 3 rfl) ab ae) fA)) (fun _ _ _ _ _=>(aG (i:=0) lT.nd rfl (Or.inl (lU.k 0 rfl)) (Or.inr (lU.k 0 rfl)))) (fun _ _ _ _ _=>bY) (fun _ _ _ _ _=>(ak (cV K rfl) (ak (dr K rfl) (qw lV 1 rfl) (qw lV 0 rfl) (fun _ _=>rfl)) ag (fun _ _=>rfl)))) ab dE) ae) ae) vU) ab bb))))))) (aj (bB zm rfl (eE .tuple .list (gl51.g 3 rfl) z_zip (aa (aT (qv av51 0 rfl) rfl) (aa (qv av51 2 rfl) ab ae) bH)) (cg rfl (aX (aG (i:=3) nd rfl (av51.l 3 rfl)) (aX (aG (i:=4) nd rfl (av51.l 4 rfl)) bS))) (ai (aw (ay aB (ak aH (qv av51 3 rfl) ag (fun _ _=>rfl)) aq (nomark _)) (ai (bX (aD (aa aq (aa (ak aH (qv av51 3 rfl) ag (fun _ _=>rfl)) (aa (ak aH (ak aC (qv av51 2 rfl) (ak aH (qv av51 3 rfl) ag (fun _ _=>rfl)) (fun _ _=>rfl)) ag (fun _ _=>rfl)) ab aK) aK) ax)) (cQ (aT (qv av51 1 rfl) rfl) (ak aH (qv av51 4 rfl) ag (fun _ _=>rfl)) cz))) az))) (ai (au (aD (aa (aT (qv av51 1 rfl) rfl) (aa (qv av51 2 rfl) ab ae) bH))))))))),?_⟩
 (try dsimp only [cxOf])
 have f1:=dJ gp op;have lx:=gg.len;walk_at "rd";rename_i y dy hy hdy ny gl d H1 c1 fgl fd' rg1 pl hpl;have i1:=Ch.inst (C:=C) hy hdy ny;have c01:Ch [] H H1:=Ch.forget (i1.wk.trans c1) (by simpa using hy)
 have sf:SF H gl d pl:=⟨chFree i1 fgl,chFree i1 fd',chFree c01 hpl⟩;have npg:pl≠gl:=fun z=>by obtain ⟨xs,h,_⟩:=rg1.g; rw [z,h] at hpl; cases hpl
 obtain ⟨H2,e2⟩:∃ H2,upd H1 pl (HO.lst [])=H2:=⟨_,rfl⟩;have sw0:SW C H H2 y gl d pl ([],[]):=by
  have c12:Ch [] H1 H2:=by rw [<- e2]; exact Ch.new hpl _
  exact ⟨c01.trans c12,rg1.ch c12,[],by rw [<- e2]; exact ah,rfl,fun i p e=>by simp at e⟩
 rw [e2];have hn2:=sw0.ch.get hn (by simp)
 have hg2:=sw0.ch.get hg (by simp)
 have fN:=fsn gl d;have fG:=fs_g gl d;walk_at "rd";clear e2 rg1 c1 hpl fgl fd' i1;refine rS (xs:=xs) (fun i σ H'=>SW C H H' y gl d pl (shr (net.take i))/\∃ u v,σ=[some (.ref nt),some (.ref y),some (.ref pl),u,v]) ⟨sw0,_,_,rfl⟩ ?_ ?_ ?_
 ·rintro i σ H' hi ⟨sw,_⟩
  exact SqT.of (sw.ch.get hg (by simp))
 ·clear sw0 hn2 hg2
  rintro i x σ H' hx ⟨sw,u,v,rfl⟩;have hi:i < net.length:=by rw [<- lx]; exact (yR.mp hx).1
  obtain ⟨g,hgi⟩:∃ g,net[i]?=some g:=⟨_,yO hi⟩;obtain ⟨p,ep,hp⟩:=gg.at_ i g hgi;rw [hx] at ep;cases ep;have hp1:H' p=some (.tup g.vs):=sw.ch.get hp (by simp)
  have si:=SI.all ok i (by omega)
  have okg:=ok i g hgi;rw [iR hgi];generalize shr (net.take i)=s at *;obtain ⟨rs,ev⟩:=eJ g;have hp2:H' p=some (.tup (.str g.wd :: rs)):=by rw [<- ev]; exact hp1
  have hw:=vS g;have ls:=si.sz;walk_at "rd";rename_i T hT;have cT:=Ch.new (W:=[]) hT (.tup [.str "in",.str "keep"]);have sw1:=sw.same cT;have hp3:=cT.get hp2 (by simp)
  have hp4:=cT.get hp1 (by simp)
  show if inV (.str g.wd) [.str "in",.str "keep"]=true then _ else _;rw [hw];generalize upd H' T (HO.tup [.str "in",.str "keep"])=H1 at sw1 hp3 hp4 ⊢;clear sw hp1 hp2;obtain ⟨⟨dy1,hy1⟩,⟨ys,hgl,ggl⟩,_⟩:=id sw1.sh;obtain ⟨ps,hpl,pp⟩:=sw1.pl;have lp:=pp.len;have ln:=si.len;have l3:=ggl.len;have fl:=fN.l;unfold stp;cases hs:g.src with
  | true =>
   refine iteT ?_;rw [yN rfl];have sl:=sw1.sh.lay hgl hp4 hs;have hplL:upd H1 gl (.lst (ys++[.ref p])) pl=some (.lst ps):=aJ npg hpl;have ppL:=pp.tu (Tu.lst (Ch.put (o:=.lst (ys++[.ref p]))) hgl);have chL:=Ch.own (o:=.lst (ys++[.ref p])) sf.g sw1.ch;have hpL:upd H1 gl (.lst (ys++[.ref p])) p=some (.tup (.str g.wd :: rs)):=aJ (aV hp3 hgl (by intro z; cases z)) hp3
   clear hp4;walk_at "rd";rename_i T2 hT2;refine ⟨?_,_,_,rfl⟩;exact SW.put (p:=(s.1.length,g.wd)) (chL.trans (Ch.new hT2 _)) (sl.ch (Ch.new hT2 _)) (aA hT2 hplL) (ppL.tu (Tu.new _ hT2)) sf npg (by rw [ah,l3]; rfl)
  | false =>
   refine iteF ?_;rw [yM (by simp)]
   clear hp3;have fo:=da okg hs;have fl3:g.feeds.length<=3:=by cases g <;> simp [Gt.feeds]
   walk_at "rd";rename_i fr H2 c2 nfr hfr;have sw2:=sw1.same c2;have hp5:=c2.get hp4 (by simp)
   have hpl2:=c2.get hpl (by simp)
   clear hp4 hpl sw1 hgl ggl hy1;refine dq (g.feeds.map nV) (fun j zs σ H'=>H'=H2/\zs=(g.feeds.take j).map (fun a=>nV (rho s.2 a))/\∃ u,σ=[u,some (.ref pl)]) (by rw [yS,zf]; omega) ⟨rfl,rfl,_,rfl⟩ ?_ ?_ ?_
   ·rintro j zs σ H' hj ⟨rfl,rfl,_⟩
    exact ⟨by simp [zH]; omega,SqL.of hfr⟩
   ·rintro j zs σ H' x hx ⟨rfl,rfl,u,rfl⟩
    rw [yY] at hx;obtain ⟨a,ha,rfl⟩:=zt.mp hx;obtain ⟨pr,e1,e2,e3⟩:=si.rho (fo a (zc ha));obtain ⟨ap,e4,e5⟩:=(pp.tu (Tu.same c2)).at_ a pr e1;have at4:=bA e4;unfold nV;walk_at "rd";refine ⟨?_,_,rfl⟩;rw [zx,ha];simp [e2,nV]
   ·rintro zs σ H' ⟨rfl,rfl,_⟩
    rw [yS,zu];have lr:∀ a∈g.feeds,rho s.2 a < s.1.length:=fun a ha=>by obtain ⟨pr,e1,e2,e3⟩:=si.rho (fo a ha); rw [e2]; exact e3
    intro D hD;have cD:=Ch.new (W:=[]) hD (.lst (g.feeds.map fun a=>nV (rho s.2 a)))
    have sw3:=sw2.same cD;have hp6:=cD.get hp5 (by simp)
    have hf6:upd H' D (.lst (g.feeds.map fun a=>nV (rho s.2 a))) D=_:=ah
    have hpl3:=cD.get hpl2 (by simp)
    have pp3:=pp.tu (Tu.same (c2.trans cD));generalize upd H' D (HO.lst (g.feeds.map fun a=>nV (rho s.2 a)))=H3 at sw3 hp6 hf6 hpl3 pp3 ⊢
    clear sw2 hp5 hpl2 cD hfr;have sh3:=sw3.sh;have sz9:s.1.length<=900:=by omega
    obtain ⟨gs3,prs3⟩:=s;refine ⟨y,p,D,gl,d,gs3,g,rho prs3,rfl,sh3,hp6,hs,hf6,lr,sz9,⟨fun r H4 c4 hr4 s4=>?_⟩⟩
    have npd:pl≠d:=by obtain ⟨kvs,hd,_⟩:=sh3.n; exact aV hpl3 hd (by intro z; cases z)
    have hpl4:=c4.get hpl3 (by simpa using ⟨npg,npd⟩)
    have pp4:=pp3.tu (sh3.tu c4);have ch4:=Ch.two sw3.ch c4 sf.g sf.d;walk_at "rd";refine ⟨?_,_,_,rfl⟩;exact SW.put (p:=(gpair gs3 (rho prs3) g).2) ch4 s4 hpl4 pp4 sf npg hr4
 ·clear sw0 hn2 hg2
  rintro σ H3 ⟨sw,u,v,rfl⟩;rw [lx,zu] at sw;have si:=SI.all ok net.length (yP _);rw [zu] at si;have hn3:=sw.ch.get hn (by simp)
  have hg3:=sw.ch.get hg (by simp)
  have ch3:=sw.ch;obtain ⟨⟨dy3,hy3⟩,⟨ys3,hgl3,ggl3⟩,_⟩:=id sw.sh;obtain ⟨ps,hpl,pp⟩:=sw.pl;have lp:=pp.len;have ln:=si.len;have lz:=si.sz;unfold gsF at q;generalize shr net=s at *;walk_at "rd";refine eC (xs:=xs) (ys:=ps) (fun i σ H'=>∃ ys,H' gl=some (.lst ys)/\Gs H' (refd net s.2 s.1 i) ys/\Ch [] H H'/\Ch [gl] H3 H'/\∃ u v,σ=[some (.ref nt),some (.ref y),some (.ref pl),u,v]) ⟨ys3,hgl3,ggl3,ch3,Ch.refl _ _,_,_,rfl⟩ ?_ ?_ ?_
  ·rintro i σ H' hi ⟨ys,h1,h2,h3,h4,_⟩
   exact ⟨SqT.of (h3.get hg (by simp)),SqL.of (h4.get hpl (by simpa using npg))⟩
  ·rintro i x z σ H' T hx hz ⟨ys,h1,h2,h3,h4,u,v,rfl⟩ hT
   have hi:i < net.length:=by rw [<- lx]; exact (yR.mp hx).1
   obtain ⟨g,hgi⟩:∃ g,net[i]?=some g:=⟨_,yO hi⟩;obtain ⟨pr,hpi⟩:∃ pr,s.2[i]?=some pr:=⟨_,yO (by omega)⟩
   obtain ⟨p,ep,hp⟩:=gg.at_ i g hgi;obtain ⟨pa,ea,ha⟩:=(pp.tu (Tu.lst h4 hgl3)).at_ i pr hpi;rw [hx] at ep;cases ep;rw [hz] at ea;cases ea;have cT:=Ch.new (W:=[]) hT (.tup [.ref p,.ref pa]);have hT1:upd H' T (.tup [.ref p,.ref pa]) T=_:=ah;have ha1:=cT.get ha (by simp)
   have hp1:=cT.get (h3.get hp (by simp)) (by simp)
   have hgl1:=cT.get h1 (by simp)
   have gg1:=h2.tu (Tu.same cT);have h31:=h3.trans cT;have h41:=h4.trans (Ch.wk cT);have hpl1:=h41.get hpl (by simpa using npg)
   have pp1:=pp.tu (Tu.lst h41 hgl3);have hy1:=h41.get hy3 (by simpa using aV hy3 hgl3 (by intro z; cases z))
   rw [lS hgi hpi];generalize upd H' T (HO.tup [.ref p,.ref pa])=H1 at *;clear h1 h2 h3 h4 hT cT ha;obtain ⟨rs,ev⟩:=eJ g;obtain ⟨wd,rs2,ev2,hk⟩:=gG g;rw [ev] at ev2;have hwk:decide (V.str g.wd=V.str "keep")=g.isKeep:=by cases ev2; exact hk
   have lr:=si.lt i pr hpi;have lgs:=gg1.len;rw [vL] at lgs;cases hkk:g.isKeep with
   | false =>
    have er:ref1 s.2 (refd net s.2 s.1 i) (g,pr)=refd net s.2 s.1 i:=by cases g <;> first | rfl | (cases hkk)
    rw [hkk] at hwk;have hp2:H1 p=some (.tup (.str g.wd :: rs)):=by rw [<- ev]; exact hp1
    clear hp1;rw [er];walk_at "rd";rw [hwk];refine iteF ?_;exact ⟨ys,hgl1,gg1,h31,h41,_,_,rfl⟩
   | true =>
    obtain ⟨ff,a,rfl⟩:∃ ff a,g=.keep ff a:=by cases g <;> first | exact ⟨_,_,rfl⟩ | (cases hkk)
    have hp2:H1 p=some (.tup [.str "keep",.int ff,.int a]):=hp1;obtain ⟨_,_,la⟩:0<=ff/\ff < 2/\a < net.length:=ok i _ hgi;obtain ⟨pr2,e1,e2,e3⟩:=si.rho la;obtain ⟨ap,e4,e5⟩:=pp1.at_ a pr2 e1;have at4:=bA e4;have hN:ixN ys.length (pr.1:Int)=some pr.1:=by unfold ixN; rw [yN (by omega),yN (by omega)]; exact za some (A3 _)
    have er:ref1 s.2 (refd net s.2 s.1 i) (.keep ff a,pr)=(refd net s.2 s.1 i).set pr.1 (.keep ff pr2.1):=by show List.set _ _ _=_; rw [e2]
    rw [er];clear hp1;unfold nV at *;walk_at "rd";rename_i T2 hT2;exact ⟨(gg1.tu (Tu.new _ hT2)).set (g:=.keep ff pr2.1) (aA hT2 hgl1) ah,Ch.own sf.g (h31.trans (Ch.new hT2 _)),(h41.trans (Ch.new hT2 _)).trans Ch.put,_,_,rfl⟩
  ·rintro σ H5 ⟨ys,h1,h2,h3,h4,u,v,rfl⟩
   have hy5:=h4.get hy3 (by simpa using aV hy3 hgl3 (by intro z; cases z))
   have hpl5:=h4.get hpl (by simpa using npg)
   have pp5:=pp.tu (Tu.lst h4 hgl3);have lm:min xs.length ps.length=net.length:=by omega
   rw [lm] at h2;walk_at "rd";rename_i R hR;exact q R gl pl ys ps _ (h3.trans (Ch.new hR _)) ah (aA hR h1) (h2.tu (Tu.new _ hR)) (aA hR hpl5) (pp5.tu (Tu.new _ hR))
end
end

section
local macro_rules | `(tactic| walk_at "user")=>`(tactic| first
 | (apply iD; (focus walk_at "get"); (focus with_reducible assumption))
 | (apply iE; (focus walk_at "get"); (focus with_reducible assumption))
 | (apply dputI; (focus walk_at "get"); (focus walk_at "arith")))
def wput (W:Nat->Bool) (n:Nat):Nat->Bool:=fun m=>if m=n then true else W m
def unw (N:Nat) (W:Nat->Bool):Nat:=(List.range N).countP fun m=>!W m
theorem lW (h:W n=false):∀ l:List Nat,l.Nodup->n∈l->(l.countP fun m=>!wput W n m) + 1=l.countP fun m=>!W m
 | [],_,m=>by cases m
 | x :: l,nd,m=>by
  rw [AI,AI];obtain ⟨h1,h2⟩:=Az.mp nd
  by_cases e:x=n
  ·subst e
   have:(l.countP fun m=>!wput W x m)=l.countP fun m=>!W m:=by
    refine AX fun y hy=>?_
    have:y≠x:=fun z=>h1 (z ▸ hy)
    simp [wput,this]
   rw [this];simp [wput,h]
  ·have ih:=lW h l h2 (by rcases yZ.mp m with z | z; exact absurd z.symm e; exact z)
   have:wput W n x=W x:=by simp [wput,e]
   rw [this];omega
theorem lX (h:W n=false) (hn:n < N):unw N (wput W n) + 1=unw N W:=lW h _ List.nodup_range (Ag.mpr hn)
structure DW (N:Nat) (W:Nat->Bool) (kvs:List (Key × V)):Prop where
 len:kvs.length + unw N W<=N
 val:∀ n:Nat,valV kvs (.inl (n:Int))=if W n then some (.bl true) else none
theorem DW.nil (N:Nat):DW N (fun _=>false) []:=⟨by show 0 + unw N _<=N; unfold unw; have:=List.countP_le_length (p:=fun m=>!(fun _=>false) m) (l:=List.range N); simp at this ⊢,fun n=>rfl⟩
theorem DW.put (h:DW N W kvs) (hw:W n=false) (hn:n < N):DW N (wput W n) (putK kvs (.inl (n:Int)) (.bl true)):=by
 refine ⟨?_,fun m=>?_⟩
 ·have:=eA kvs (.inl (n:Int)) (.bl true)
  have:=lX hw hn;have:=h.len;omega
 ·rw [fW]
  by_cases e:m=n
  ·subst e; simp [wput]
  ·rw [yM (fun z=>e (by have:=Sum.inl.inj z; omega)),h.val]
   simp [wput,e]
inductive Wn (gs:List Gt) (os:List Nat):Nat->Prop where
 | inp {n:Nat}:gs[n]?=some .inp->Wn gs os n
 | out {n:Nat}:n∈os->Wn gs os n
 | fed {n m:Nat}{h:Gt}:Wn gs os m->gs[m]?=some h->n∈h.feeds->Wn gs os n
structure Wd (gs:List Gt) (os:List Nat) (W:Nat->Bool):Prop where
 lt:∀ n,W n=true->n < gs.length
 ins:∀ n:Nat,gs[n]?=some .inp->W n=true
 out:∀ o∈os,W o=true
 cl:∀ (n:Nat) (g:Gt) (a:Nat),W n=true->gs[n]?=some g->a∈g.feeds->W a=true
 of:∀ (n:Nat) (g:Gt),W n=true->gs[n]?=some g->g≠.inp->n∈os\/∃ (m:Nat) (h:Gt),W m=true/\gs[m]?=some h/\n∈h.feeds
 rc:∀ n,W n=true->Wn gs os n
structure Wy (gs:List Gt) (os:List Nat) (W:Nat->Bool) (vs:List Nat):Prop where
 lt:∀ n,W n=true->n < gs.length
 ins:∀ n:Nat,gs[n]?=some .inp->W n=true
 out:∀ o∈os,W o=true\/o∈vs
 cl:∀ (n:Nat) (g:Gt) (a:Nat),W n=true->gs[n]?=some g->a∈g.feeds->W a=true\/a∈vs
 of:∀ (n:Nat) (g:Gt),W n=true->gs[n]?=some g->g≠.inp->n∈os\/∃ (m:Nat) (h:Gt),W m=true/\gs[m]?=some h/\n∈h.feeds
 ws:∀ n∈vs,n < gs.length/\(n∈os\/∃ (m:Nat) (h:Gt),W m=true/\gs[m]?=some h/\n∈h.feeds)
 rc:∀ n,W n=true->Wn gs os n
 wr:∀ n∈vs,Wn gs os n
theorem Wy.done (h:Wy gs os W []):Wd gs os W :=
 ⟨h.lt,h.ins,fun o m=>(h.out o m).resolve_right (by simp),fun n g a x y z=>(h.cl n g a x y z).resolve_right (by simp),h.of,h.rc⟩
theorem Wy.skip{n:Nat} (h:Wy gs os W (ws++[n])) (hn:W n=true):Wy gs os W ws:=by
 refine ⟨h.lt,h.ins,fun o m=>?_,fun k g a x y z=>?_,h.of,fun k m=>h.ws k (Ai _ m),h.rc,fun k m=>h.wr k (Ai _ m)⟩
 ·rcases h.out o m with e | e
  ·exact .inl e
  ·rcases zR.mp e with e | e
   ·exact .inr e
   ·exact .inl (by rw [zI.mp e]; exact hn)
 ·rcases h.cl k g a x y z with e | e
  ·exact .inl e
  ·rcases zR.mp e with e | e
   ·exact .inr e
   ·exact .inl (by rw [zI.mp e]; exact hn)
theorem gL (h:W m=true):wput W n m=true:=by unfold wput; split <;> simp [h]
theorem gM (h:wput W n m=true):m=n\/W m=true:=by
 unfold wput at h
 split at h
 ·exact .inl ‹_›
 ·exact .inr h
theorem Wy.take (h:Wy gs os W (ws++[n])) (hg:gs[n]?=some g) (hf:∀ a∈g.feeds,a < gs.length):Wy gs os (wput W n) (ws++g.feeds):=by
 have wn:wput W n n=true:=by simp [wput]
 have pv:∀ {k:Nat},(k∈os\/∃ (m:Nat) (h:Gt),W m=true/\gs[m]?=some h/\k∈h.feeds)->(k∈os\/∃ (m:Nat) (h:Gt),wput W n m=true/\gs[m]?=some h/\k∈h.feeds):=fun z=>z.imp id fun ⟨m,h,a,b⟩=>⟨m,h,gL a,b⟩
 refine ⟨fun k z=>?_,fun k z=>gL (h.ins k z),fun o m=>?_,fun k g' a x y z=>?_,fun k g' x y z=>?_,fun k m=>?_,fun k z=>?_,fun k m=>?_⟩
 ·rcases gM z with rfl | z
  ·exact (yR.mp hg).1
  ·exact h.lt k z
 ·rcases h.out o m with e | e
  ·exact .inl (gL e)
  ·rcases zR.mp e with e | e
   ·exact .inr (Ai _ e)
   ·exact .inl (by rw [zI.mp e]; exact wn)
 ·rcases gM x with rfl | x
  ·rw [hg] at y
   cases y;exact .inr (zJ _ z)
  ·rcases h.cl k g' a x y z with e | e
   ·exact .inl (gL e)
   ·rcases zR.mp e with e | e
    ·exact .inr (Ai _ e)
    ·exact .inl (by rw [zI.mp e]; exact wn)
 ·rcases gM x with rfl | x
  ·exact pv (h.ws k (by simp)).2
  ·exact pv (h.of k g' x y z)
 ·rcases zR.mp m with e | e
  ·exact ⟨(h.ws k (Ai _ e)).1,pv (h.ws k (Ai _ e)).2⟩
  ·exact ⟨hf k e,.inr ⟨n,g,wn,hg,e⟩⟩
 ·rcases gM z with rfl | z
  ·exact h.wr k (by simp)
  ·exact h.rc k z
 ·rcases zR.mp m with e | e
  ·exact h.wr k (Ai _ e)
  ·exact .fed (h.wr n (by simp)) hg e
theorem Wy.start (hW:∀ n,W n=true↔gs[n]?=some .inp) (ho:∀ o∈os,o < gs.length):Wy gs os W os:=by
 refine ⟨fun n z=>(yR.mp ((hW n).mp z)).1,fun n z=>(hW n).mpr z,fun o m=>.inr m,fun n g a x y z=>?_,fun n g x y z=>?_,fun n m=>⟨ho n m,.inl m⟩,fun n z=>.inp ((hW n).mp z),fun n m=>.out m⟩
 ·rw [(hW n).mp x] at y
  cases y;cases z
 ·rw [(hW n).mp x] at y
  cases y;exact absurd rfl z
section
variable {P:Program}{w:World}{K:PySem.W.Frag}{mg:Str->Option Value}{base:Heap}{f:Addr}{fd:FuncData}{k:Nat}
theorem av52:AF (defScope (top 52)) ["gates", "outs", "wanted", "number", "gate", "waiting"]:=⟨∅⟩
theorem gl52:AG (defScope (top 52)) ["enumerate", "list", "len", "feeds_of"]:=⟨∅⟩
def spWan:Sp:=fun vs H Q _=>∃ (gl ol:Addr) (gs:List Gt) (xs:List V) (os:List Nat),vs=[.ref gl,.ref ol]/\H gl=some (.lst xs)/\Gs H gs xs/\H ol=some (.lst (os.map nV))/\(∀ o∈os,o < gs.length)/\(∀ (i:Nat) (g:Gt),gs[i]?=some g->∀ a∈g.feeds,a < gs.length)/\gs.length<=200/\os.length<=200 /\
 ∀ (d:Addr) (W:Nat->Bool) (kvs:List (Key × V)) (H':Hp),Ch [] H H'->H' d=some (.dK kvs)->DW gs.length W kvs->Wd gs os W->Q (.ref d) H'
theorem scWan:FnScope ["gates", "outs", "wanted", "number", "gate", "waiting"] ["gates", "outs"] (defScope (top 52)):=⟨rfl,rfl,rfl,∅,rfl,∅,∅⟩
theorem vW (F:Fun K "wanted_of" "wanted_of" (top 52) f fd) (Dfeeds_of:DefOk P w K mg base CX0 k "feeds_of" ["gate"] spFeeds) (z_enumerate:mg "enumerate" = none) (z_list:mg "list" = none) (z_len:mg "len" = none):FnOk P w K mg base CX0 (k + 1) f fd ["gates", "outs"] spWan:=by
 have nd:=scWan.nd;refine F.ok scWan (fun vs H Q E h=>by obtain ⟨gl,ol,gs,xs,os,rfl,_⟩:=h; rfl) (fun cdv A outer s0 H vs Q E hr h=>?_)
 obtain ⟨gl,ol,gs,xs,os,rfl,hg,gg,ho,lo,lf,zg,zo,q⟩:=h;have hu:=eV hr;refine ⟨_,(Pr.h (aj (aE (i:=2) nd rfl (av52.l 2 rfl) kT) (aj (bB zm rfl (dU .list (gl52.g 0 rfl) z_enumerate (aa (qv av52 0 rfl) ab ae)) (cg rfl (aX (aG (i:=3) nd rfl (av52.l 3 rfl)) (aX (aG (i:=4) nd rfl (av52.l 4 rfl)) bS))) (ai (aw (ay aB (ak aH (qv av52 4 rfl) ag (fun _ _=>rfl)) aq (nomark _)) (ai (gw hu (qv av52 2 rfl) (qv av52 3 rfl) bz rfl)) az))) (bG (aE (i:=5) nd rfl (av52.l 5 rfl) (bQ di (gl52.g 1 rfl) z_list cX (aa (qv av52 1 rfl) ab ae) cY cZ)) (aj (sC zm (ay eQ (aF aL (gl52.g 2 rfl) z_len yX (aa (qv av52 5 rfl) ab ae) aM aO) ag (nomark _)) (aj (aE (i:=3) nd rfl (av52.l 3 rfl) (t8 (qv av52 5 rfl))) (ai (aw (iC hu (qv av52 3 rfl) (qv av52 2 rfl)) (aj (gw hu (qv av52 2 rfl) (qv av52 3 rfl) bz rfl) (ai (bM (cm zM PySem.F.slot_list_extend PySem.F.type_list_extend qX (qv av52 5 rfl) (aa (av Dfeeds_of hr (gl52.g 3 rfl) pass0 (aa (ak aC (qv av52 0 rfl) (qv av52 3 rfl) (fun _ _=>rfl)) ab aK) fA) ab bb))))) az)))) (ai (au (qv av52 2 rfl)))))))),?_⟩
 (try dsimp only [cxOf])
 have lx:=gg.len;walk_at "rd";rename_i d hd;refine eZ (xs:=xs) (fun i σ H'=>∃ W kvs u v,σ=[some (.ref gl),some (.ref ol),some (.ref d),u,v,none]/\Ch [] H H'/\H' d=some (.dK kvs)/\DW gs.length W kvs/\∀ n,W n=true↔n < i/\gs[n]?=some .inp) ⟨_,[],_,_,rfl,Ch.new hd _,ah,DW.nil _,fun n=>by simp⟩ ?_ ?_ ?_
 ·rintro i σ H' hi ⟨W,kvs,u,v,rfl,c,_⟩
  exact SqL.of (c.get hg (by simp))
 ·rintro i x σ H' T hx ⟨W,kvs,u,v,rfl,c,hk,dw,hW⟩ hT
  have hi:i < gs.length:=by rw [<- lx]; exact (yR.mp hx).1
  obtain ⟨g,hgi⟩:∃ g,gs[i]?=some g:=⟨_,yO hi⟩;obtain ⟨p,ep,hp⟩:=gg.at_ i g hgi;rw [hx] at ep;cases ep;have hp1:H' p=some (.tup g.vs):=c.get hp (by simp)
  obtain ⟨wd,rs,ev,hin⟩:=ft g;rw [ev] at hp1;have kl:=dw.len;walk_at "rd";rw [hin];cases hh:g.isIn with
  | true =>
   have eg:g=.inp:=by cases g <;> first | rfl | (cases hh)
   subst eg;have wi:W i=false:=by
    cases z:W i with
    | false=>rfl
    | true=>have:=((hW i).mp z).1; omega
   refine iteT ?_;walk_at "rd";refine ⟨dw.put wi hi,fun n=>?_⟩
   by_cases e:n=i
   ·subst e; simp [wput,hgi]
   ·have:wput W i n=W n:=by simp [wput,e]
    rw [this,hW n]
    constructor <;> rintro ⟨a,b⟩ <;> exact ⟨by omega,b⟩
  | false =>
   refine iteF ?_;refine ⟨W,kvs,_,_,rfl,c.trans (Ch.new hT _),aA hT hk,dw,fun n=>?_⟩
   rw [hW n]
   constructor
   ·rintro ⟨a,b⟩; exact ⟨by omega,b⟩
   ·rintro ⟨a,b⟩
    refine ⟨?_,b⟩
    by_cases e:n=i
    ·subst e; rw [hgi] at b; cases b; cases hh
    ·omega
 ·rintro σ H1 ⟨W,kvs,u,v,rfl,c,hk,dw,hW⟩
  have hW:∀ n,W n=true↔gs[n]?=some .inp:=fun n=>by
   rw [hW n,lx];exact ⟨fun h=>h.2,fun h=>⟨(yR.mp h).1,h⟩⟩
  have wy0:=Wy.start hW lo;have ho1:=c.get ho (by simp)
  have kl1:=dw.len;walk_at "rd";refine bC (fun σ H'=>∃ wl,σ=[some (.ref gl),some (.ref ol),some (.ref d),u,v,some (.ref wl)]/\Ch [] H H'/\H' d=some (.dK kvs)/\H' wl=some (.lst (os.map nV))/\H wl=none/\d≠wl) ?_ ?_
  ·walk_at "rd"
   rename_i wl hwl;exact ⟨chFree c hwl,aY hk hwl⟩
  rintro σ H2 ⟨wl,rfl,c2,hk2,hw2,fwl,ndw⟩;refine ⟨(fun m σ H'=>∃ (W:Nat->Bool) (kvs:List (Key × V)) (ws:List Nat) (u3 u4:Option V),σ=[some (.ref gl),some (.ref ol),some (.ref d),u3,u4,some (.ref wl)]/\Ch [] H H'/\H' d=some (.dK kvs)/\DW gs.length W kvs/\Wy gs os W ws/\H' wl=some (.lst (ws.map nV))/\m=ws.length + 4 * unw gs.length W/\m<=1000),⟨_,W,kvs,os,_,_,rfl,c2,hk2,dw,wy0,hw2,rfl,by omega⟩,?_⟩
  rintro m σ H1 ⟨W,kvs,ws,u3,u4,rfl,c,hk,dw,wy,hw,rfl,hm⟩;walk_at "rd";refine ite2 (fun hc=>?_) (fun hc=>?_)
  ·refine ⟨_,fun σ' H' z=>z,?_⟩
   have hne:ws≠[]:=by rintro rfl; simp at hc
   obtain ⟨ws,n,rfl⟩:∃ ws' n,ws=ws'++[n]:=⟨ws.dropLast,ws.getLast hne,(List.dropLast_concat_getLast hne).symm⟩;have hla:((ws++[n]).map nV)[((ws++[n]).map nV).length - 1]?=some (nV n):=by simp
   have edl:((ws++[n]).map nV).dropLast=ws.map nV:=by rw [Ap]; exact List.dropLast_concat
   have cP:=Ch.own (o:=.lst (ws.map nV)) fwl c;have hkP:upd H1 wl (.lst (ws.map nV)) d=some (.dK kvs):=aJ ndw hk;have hwP:upd H1 wl (.lst (ws.map nV)) wl=some (.lst (ws.map nV)):=ah;refine ⟨_,rfl,.inl ⟨rfl,_,SqL.of hw⟩,wl,_,_,rfl,rfl,hw,hla,?_⟩;rw [edl];generalize upd H1 wl (.lst (ws.map nV))=H3 at cP hkP hwP ⊢;clear hk hw c c2 hk2 hw2;have nlt:=(wy.ws n (by simp)).1
   obtain ⟨g,egn⟩:∃ g,gs[n]?=some g:=⟨_,yO nlt⟩;have dv:=dw.val n;have kl:=dw.len;rw [zk,AD] at hm ⊢;cases hW:W n with
   | true =>
    rw [hW] at dv;have dv:valV kvs (.inl (n:Int))=some (.bl true):=dv;unfold nV;walk_at "rd";exact ⟨(by omega:ws.length + 4 * unw gs.length W < ws.length + 1 + 4 * unw gs.length W),W,kvs,ws,_,_,rfl,cP,hkP,dw,wy.skip hW,hwP,rfl,by omega⟩
   | false =>
    rw [hW] at dv;have dv:valV kvs (.inl (n:Int))=none:=dv;obtain ⟨p,ep,hp⟩:=gg.at_ n g egn;have hp3:=cP.get hp (by simp)
    have hg3:=cP.get hg (by simp)
    have at1:=bA ep;have fl3:g.feeds.length<=3:=by cases g <;> simp [Gt.feeds]
    have up:=lX hW nlt;have np:p≠d:=aV hp3 hkP (by intro z; cases z)
    have ng:gl≠d:=aV hg3 hkP (by intro z; cases z)
    have cD:=Ch.own (o:=.dK (putK kvs (.inl (n:Int)) (.bl true))) hd cP;unfold nV;walk_at "rd";rename_i r H4 c4 nr hr4;exact ⟨(by simp; omega:(ws++g.feeds).length + 4 * unw gs.length (wput W n) < ws.length + 1 + 4 * unw gs.length W),wput W n,_,ws++g.feeds,_,_,rfl,Ch.own fwl (cD.trans c4),aJ ndw (c4.get ah (by simp)),dw.put hW nlt,wy.take egn (lf n g egn),by rw [ah,Ap]; rfl,rfl,by simp; omega⟩
  ·have hnil:ws=[]:=by
    cases ws with
    | nil=>rfl
    | cons _ _=>exact absurd hc (by simp)
   subst hnil;walk_at "rd";exact q d W kvs _ c hk dw wy.done
end
end

section
structure RF (net:List Gt) (s:SS) (i:Nat) (gs:List Gt):Prop where
 len:gs.length=s.1.length
 oth:∀ (n:Nat) (g:Gt),s.1[n]?=some g->g.isKeep=false->gs[n]?=some g
 kee:∀ (n:Nat) (f:Int) (a:Nat),s.1[n]?=some (.keep f a)->∃ b,gs[n]?=some (.keep f b)
 fed:∀ (j:Nat) (f:Int) (a:Nat) (p:Nat × Str),j < i->net[j]?=some (.keep f a)->s.2[j]?=some p->gs[p.1]?=some (.keep f (rho s.2 a))
 cnt:∀ t:Gt->Bool,(∀ f a b,t (.keep f a)=t (.keep f b))->gs.countP t=s.1.countP t
theorem RF.all{s:SS} (si:SI net net.length s):∀ i,i<=net.length->RF net s i (refd net s.2 s.1 i)
 | 0,_=>⟨rfl,fun n g h _=>h,fun n f a h=>⟨a,h⟩,fun j f a p h=>absurd h (Nat.not_lt_zero _),fun t _=>rfl⟩
 | i + 1,hi=>by
  have r:=RF.all si i (by omega)
  have e:net[i]?=some net[i]:=yO (by omega)
  have e2:s.2[i]?=some (s.2[i]'(by rw [si.len]; omega)):=yO (by rw [si.len]; omega)
  generalize net[i]=g at e;generalize s.2[i]'(by rw [si.len]; omega)=p at e2
  rw [lS e e2]
  by_cases hk:∃ f a,g=.keep f a
  ·obtain ⟨f,a,rfl⟩:=hk
   have h0:=si.src i _ p e e2 rfl;obtain ⟨b0,hb0⟩:=r.kee p.1 f a h0;have hl:=(yR.mp hb0).1;show RF net s (i + 1) ((refd net s.2 s.1 i).set p.1 (.keep f (rho s.2 a)));refine ⟨by rw [zT]; exact r.len,fun n g h hg=>?_,fun n f' a' h=>?_,fun j f' a' p' hj h1 h2=>?_,fun t ht=>?_⟩
   ·have:p.1≠n:=fun z=>by rw [<- z,h0] at h; cases h; cases hg
    rw [AJ this]; exact r.oth n g h hg
   ·by_cases z:p.1=n
    ·subst z
     rw [h0] at h;cases h;exact ⟨_,by rw [AZ hl]⟩
    ·rw [AJ z]; exact r.kee n f' a' h
   ·by_cases z:j=i
    ·subst z
     rw [e] at h1;cases h1;rw [e2] at h2;cases h2;rw [AZ hl]
    ·have:p.1≠p'.1:=fun y=>z (si.inj j i _ _ p' p h1 e h2 e2 rfl rfl y.symm)
     rw [AJ this]; exact r.fed j f' a' p' (by omega) h1 h2
   ·rw [iL hb0 (ht _ _ _)]; exact r.cnt t ht
  ·have er:ref1 s.2 (refd net s.2 s.1 i) (g,p)=refd net s.2 s.1 i:=by
    cases g <;> first | rfl | exact absurd ⟨_,_,rfl⟩ hk
   rw [er];refine ⟨r.len,r.oth,r.kee,fun j f' a' p' hj h1 h2=>?_,r.cnt⟩
   by_cases z:j=i
   ·subst z
    rw [e] at h1;cases h1;exact absurd ⟨_,_,rfl⟩ hk
   ·exact r.fed j f' a' p' (by omega) h1 h2
structure LG (net:List Gt) (prs:List (Nat × Str)) (gs:List Gt):Prop where
 ok:Oks gs
 fw:∀ (n:Nat) (g:Gt),gs[n]?=some g->g.src=false->FW gs g
 un:∀ (i j:Nat) (g h:Gt),gs[i]?=some g->gs[j]?=some h->g.src=false->h.src=false->g.nf=h.nf->i=j
 ci:gs.countP Gt.isIn=net.countP Gt.isIn
 cb:gs.countP Gt.big<=net.countP Gt.big
 pl:prs.length=net.length
 pt:∀ (j:Nat) (p:Nat × Str),prs[j]?=some p->p.1 < gs.length
 sz:gs.length<=net.length
theorem RF.cn {net:List Gt}{s:SS}{i:Nat} (r:RF net s i gs) {a:Nat} (ha:a < s.1.length):Cn gs a↔Cn s.1 a:=by
 obtain ⟨g,eg⟩:∃ g,s.1[a]?=some g:=⟨_,yO ha⟩
 by_cases hk:g.isKeep=true
 ·obtain ⟨f,b,rfl⟩:∃ f b,g=.keep f b:=by cases g <;> first | exact ⟨_,_,rfl⟩ | (cases hk)
  obtain ⟨b',e'⟩:=r.kee a f b eg
  constructor <;> rintro ⟨z | z⟩
  ·rw [e'] at z; cases z
  ·rw [e'] at z; cases z
  ·rw [eg] at z; cases z
  ·rw [eg] at z; cases z
 ·have e':=r.oth a g eg (by simpa using hk)
  constructor <;> rintro ⟨z⟩ <;> refine ⟨?_⟩
  ·rw [e'] at z; rw [eg]; exact z
  ·rw [eg] at z; rw [e']; exact z
theorem RF.back {net:List Gt}{s:SS}{i:Nat}{gs:List Gt} (r:RF net s i gs) (h:gs[n]?=some g):(g.isKeep=false/\s.1[n]?=some g)\/∃ f a b,g=.keep f b/\s.1[n]?=some (.keep f a):=by
 have hl:n < s.1.length:=by rw [<- r.len]; exact (yR.mp h).1
 obtain ⟨g',eg⟩:∃ g',s.1[n]?=some g':=⟨_,yO hl⟩
 by_cases hk:g'.isKeep=true
 ·obtain ⟨f,b,rfl⟩:∃ f b,g'=.keep f b:=by cases g' <;> first | exact ⟨_,_,rfl⟩ | (cases hk)
  obtain ⟨b',e'⟩:=r.kee n f b eg;rw [h] at e';exact .inr ⟨f,b,b',zp e',eg⟩
 ·have hk:g'.isKeep=false:=by simpa using hk
  have e':=r.oth n g' eg hk;rw [h] at e';cases e';exact .inl ⟨hk,eg⟩
theorem RF.lg{s:SS} (ok:Oks net) (si:SI net net.length s) (r:RF net s net.length gs):LG net s.2 gs:=by
 have hn:∀ {n:Nat}{g:Gt},gs[n]?=some g->g.src=false->s.1[n]?=some g:=fun h hs=>by
  rcases r.back h with ⟨_,e⟩ | ⟨f,a,b,e,_⟩
  ·exact e
  ·rw [e] at hs; cases hs
 refine ⟨fun i g h=>?_,fun n g h hs=>?_,fun i j g g' h h' hs hs' e=>si.wf.un i j g g' (hn h hs) (hn h' hs') hs hs' e,?_,?_,si.len,fun j p h=>by rw [r.len]; exact si.lt j p h,by rw [r.len]; exact si.sz⟩
 ·by_cases hs:g.src=false
  ·exact Gt.ok_any (si.wf.ok i g (hn h hs) hs).1 hs
  ·rcases r.back h with ⟨hk,e⟩ | ⟨f,a,b,rfl,e⟩
   ·cases g <;> first | trivial | exact absurd rfl hs | (cases hk)
   ·obtain ⟨j,p,h1,h2,h3⟩:=si.kp i _ e rfl
    obtain ⟨o1,o2,o3⟩:=ok j _ h1;have:=r.fed j f a p (yR.mp h1).1 h1 h2;rw [h3,h] at this;cases this;obtain ⟨q,q1,q2,q3⟩:=si.rho o3;exact ⟨o1,o2,by rw [q2,r.len]; exact q3⟩
 ·obtain ⟨o,fw⟩:=si.wf.ok n g (hn h hs) hs
  have hl:n < s.1.length:=(yR.mp (hn h hs)).1;cases g <;> simp only [FW,Gt.ok,Gt.src] at *
  case not a =>
   rw [r.cn (by omega)]
   refine ⟨fw.1,fun b z=>?_⟩
   rcases r.back z with ⟨_,e⟩ | ⟨_,_,_,e,_⟩
   ·exact fw.2 b e
   ·cases e
  case and a b=>rw [r.cn (by omega),r.cn (by omega)]; exact fw
  case or a b=>rw [r.cn (by omega),r.cn (by omega)]; exact fw
  case xor a b=>rw [r.cn (by omega),r.cn (by omega)]; exact fw
  case pick a b c=>rw [r.cn (by omega),r.cn (by omega),r.cn (by omega)]; exact fw
 ·rw [r.cnt _ (fun _ _ _=>rfl),si.ci _ (fun g h=>by cases g <;> first | rfl | (cases h)),zu]
 ·rw [r.cnt _ (fun _ _ _=>rfl)]
  have:=si.cb
  rwa [zu] at this
theorem gN (ok:Oks net):LG net (shr net).2 (gsF net):=by
 have si:=SI.all ok net.length (yP _);rw [zu] at si;exact RF.lg ok si (RF.all si net.length (yP _))
def cW (W:Nat->Bool) (n:Nat):Nat:=((List.range n).filter W).length
def kp (W:Nat->Bool) (N:Nat):List Nat:=(List.range N).filter W
def nW (W:Nat->Bool):Nat->Bool:=fun n=>!W n
theorem dN (W:Nat->Bool) (N:Nat):kp W (N + 1)=kp W N++if W N then [N] else []:=by
 unfold kp;rw [List.range_succ,List.filter_append];cases h:W N <;> simp [h]
theorem eL (h:W n=true):∀ {N:Nat},n < N->(kp W N)[cW W n]?=some n
 | 0,z=>absurd z (Nat.not_lt_zero _)
 | N + 1,z=>by
  rw [dN]
  by_cases e:n=N
  ·subst e
   rw [h,yN rfl];show (kp W n++[n])[(kp W n).length]?=some n;simp
  ·have:=eL h (N:=N) (by omega)
   rw [zb (yR.mp this).1]; exact this
theorem iT (W:Nat->Bool) (N:Nat):(kp W N).Nodup:=List.nodup_range.filter _
theorem lY {l:List Nat} (h:l.Nodup) {x:Nat} (e:l[i]?=some x) (e':l[j]?=some x):i=j:=by
 exact (List.getElem?_inj (yR.mp e).1 h).mp (e.trans e'.symm)
theorem gO (h:(kp W N)[j]?=some n):W n=true/\n < N/\j=cW W n:=by
 have m:=zc h;unfold kp at m;obtain ⟨m1,m2⟩:=AY.mp m;exact ⟨m2,Ag.mp m1,lY (iT W N) h (eL m2 (Ag.mp m1))⟩
theorem iU {W:Nat->Bool}{a:Nat} (h:W a=true) (l:a < n):cW W a < cW W n:=(yR.mp (eL h l)).1
def rk (W:Nat->Bool) (N n:Nat):Nat:=if W n then cW W n else cW W N + cW (nW W) n
theorem rk_w (h:W n=true):rk W N n=cW W n:=by unfold rk; rw [yN h]
def od (W:Nat->Bool) (N:Nat):List Nat:=kp W N++kp (nW W) N
theorem iV {W:Nat->Bool} (h:n < N):(od W N)[rk W N n]?=some n:=by
 unfold od rk
 by_cases e:W n=true
 ·rw [yN e]
  have:=eL e h;rw [zb (yR.mp this).1]; exact this
 ·rw [yM e,zw (by show (kp W N).length<=(kp W N).length + _; omega)]
  show (kp (nW W) N)[(kp W N).length + cW (nW W) n - (kp W N).length]?=some n;rw [Nat.add_sub_cancel_left];exact eL (by simp [nW,e]) h
theorem vX (W:Nat->Bool) (N:Nat):(od W N).Nodup:=by
 refine List.nodup_append.mpr ⟨iT _ _,iT _ _,fun a ha b hb e=>?_⟩
 unfold kp at ha hb;have h1:=(AY.mp ha).2;have h2:=(AY.mp hb).2;rw [<- e] at h2;simp [nW,h1] at h2
theorem fB (W:Nat->Bool):∀ N,(od W N).length=N
 | 0=>rfl
 | N + 1=>by
  have:=fB W N;unfold od at this ⊢;rw [dN,dN];cases h:W N <;> simp [nW,h] at this ⊢ <;> omega
def Gt.ren (ρ:Nat->Nat):Gt->Gt
 | .inp=>.inp
 | .zero=>.zero
 | .one=>.one
 | .keep f a=>.keep f (ρ a)
 | .not a=>.not (ρ a)
 | .and a b=>.and (ρ a) (ρ b)
 | .or a b=>.or (ρ a) (ρ b)
 | .xor a b=>.xor (ρ a) (ρ b)
 | .pick a b c=>.pick (ρ a) (ρ b) (ρ c)
theorem vY (ρ:Nat->Nat) (g:Gt):(g.ren ρ).src=g.src:=by cases g <;> rfl
theorem lZ (ρ:Nat->Nat) (g:Gt):(g.ren ρ).isIn=g.isIn:=by cases g <;> rfl
def sel (gs:List Gt) (ρ:Nat->Nat) (l:List Nat):List Gt:=l.map fun n=>(gs.getD n .inp).ren ρ
theorem ma{n:Nat} (h:l[j]?=some n) (e:gs[n]?=some g):(sel gs ρ l)[j]?=some (g.ren ρ):=by
 unfold sel;rw [yY,h];simp [zi,e]
theorem me{t:Gt} (h:(sel gs ρ l)[j]?=some t):∃ n,l[j]?=some n/\t=(gs.getD n .inp).ren ρ:=by
 unfold sel at h;rw [yY] at h;obtain ⟨n,a,b⟩:=zt.mp h;exact ⟨n,a,b.symm⟩
def sml (gs:List Gt) (W:Nat->Bool):List Gt:=sel gs (rk W gs.length) (kp W gs.length)
section
variable {net gs:List Gt}{prs:List (Nat × Str)}{os:List Nat}{W:Nat->Bool}
theorem mf (w:Wd gs os W) (hn:W n=true) (h:gs[n]?=some g):(sml gs W)[rk W gs.length n]?=some (g.ren (rk W gs.length)):=by
 rw [rk_w hn];exact ma (eL hn (w.lt n hn)) h
theorem vZ (w:Wd gs os W){t:Gt} (h:(sml gs W)[j]?=some t):∃ n g,W n=true/\gs[n]?=some g/\j=rk W gs.length n/\t=g.ren (rk W gs.length):=by
 obtain ⟨n,a,b⟩:=me h;obtain ⟨h1,h2,h3⟩:=gO a;have e:gs[n]?=some gs[n]:=yO h2;refine ⟨n,gs[n],h1,e,by rw [rk_w h1]; exact h3,?_⟩
 rw [b,zi,e]; rfl
theorem de (w:Wd gs os W) {a b:Nat} (ha:W a=true) (hb:W b=true) (l:a < b):rk W gs.length a < rk W gs.length b:=by
 rw [rk_w ha,rk_w hb]; exact iU ha l
theorem iW (w:Wd gs os W) {a:Nat} (ha:W a=true):rk W gs.length a < (sml gs W).length:=by
 obtain ⟨g,e⟩:∃ g,gs[a]?=some g:=⟨_,yO (w.lt a ha)⟩;exact (yR.mp (mf w ha e)).1
theorem mh (w:Wd gs os W) (ok:Oks gs):Oks (sml gs W):=by
 intro j t h;obtain ⟨n,g,h1,h2,h3,rfl⟩:=vZ w h;have o:=ok n g h2;have cl:=fun a=>w.cl n g a h1 h2
 rw [h3];cases g <;> simp only [Gt.ok,Gt.ren,Gt.feeds,yZ,ze,zh,zI] at *
 case keep f a=>exact ⟨o.1,o.2.1,iW w (cl a rfl)⟩
 case not a=>exact de w (cl a rfl) h1 o
 case and a b=>exact ⟨de w (cl a (.inl rfl)) h1 o.1,de w (cl b (.inr rfl)) h1 o.2⟩
 case or a b=>exact ⟨de w (cl a (.inl rfl)) h1 o.1,de w (cl b (.inr rfl)) h1 o.2⟩
 case xor a b=>exact ⟨de w (cl a (.inl rfl)) h1 o.1,de w (cl b (.inr rfl)) h1 o.2⟩
 case pick a b c=>exact ⟨de w (cl a (.inl rfl)) h1 o.1,de w (cl b (.inr (.inl rfl))) h1 o.2.1,de w (cl c (.inr (.inr rfl))) h1 o.2.2⟩
end
end

section
local macro_rules | `(tactic| walk_at "user")=>`(tactic| first
 | (apply iD; (focus walk_at "get"); (focus with_reducible assumption))
 | (apply iE; (focus walk_at "get"); (focus with_reducible assumption))
 | (apply dputI; (focus walk_at "get"); (focus walk_at "arith")))
theorem v3 (ρ:Nat->Nat) (h:g.isKeep=false):(g.ren ρ).vs=.str g.wd :: (g.feeds.map fun a=>nV (ρ a)):=by cases g <;> first | rfl | (cases h)
theorem v7 (g:Gt):decide (V.str g.wd=V.str "keep")=g.isKeep:=by
 obtain ⟨rs,ev⟩:=eJ g;obtain ⟨wd,rs2,ev2,hk⟩:=gG g;rw [ev] at ev2;cases ev2; exact hk
section
variable {P:Program}{w:World}{K:PySem.W.Frag}{mg:Str->Option Value}{base:Heap}{f:Addr}{fd:FuncData}{k:Nat}
theorem av53:AF (defScope (top 53)) ["gate", "places", "feeds"]:=⟨∅⟩
theorem gl53:AG (defScope (top 53)) ["feeds_of", "tuple"]:=⟨∅⟩
def iX:Scope:=⟨.function,[(".0",.local),("feed",.local),("places",.free)],false,false,[]⟩
theorem mi:CompOk iX (defScope (top 53)) (["feed"]:List Str) (["gate", "places", "feeds"]:List Str) [1] (["feed", "places"]:List Str):=compOk rfl ∅ ∅ ∅ ∅ rfl ∅
theorem mj:AK (relab iX (defScope (top 53))) ["feed"]:=⟨∅⟩
theorem ml:AV (relab iX (defScope (top 53))) ["feed", "places"]:=⟨∅⟩
def spRen:Sp:=fun vs H Q _=>∃ (p d:Addr) (g:Gt) (ρ:Nat->Nat) (kvs:List (Key × V)),vs=[.ref p,.ref d]/\H p=some (.tup g.vs)/\H d=some (.dK kvs)/\(∀ a∈g.feeds,valV kvs (.inl (a:Int))=some (nV (ρ a)))/\∀ r H',Ch [] H H'->H' r=some (.tup (g.ren ρ).vs)->Q (.ref r) H'
theorem scRen:FnScope ["gate", "places", "feeds"] ["gate", "places"] (defScope (top 53)):=⟨rfl,rfl,rfl,∅,rfl,∅,∅⟩
theorem v8 (F:Fun K "renumbered" "renumbered" (top 53) f fd) (Dfeeds_of:DefOk P w K mg base CX0 k "feeds_of" ["gate"] spFeeds) (z_tuple:mg "tuple" = none):FnOk P w K mg base CX0 (k + 1) f fd ["gate", "places"] spRen:=by
 have nd:=scRen.nd;refine F.ok scRen (fun vs H Q E h=>by obtain ⟨p,d,g,ρ,kvs,rfl,_⟩:=h; rfl) (fun cdv A outer s0 H vs Q E hr h=>?_)
 obtain ⟨p,d,g,ρ,kvs,rfl,hp,hd,hv,q⟩:=h;have hu:=eV hr;refine ⟨_,(Pr.h (aj (eI (i:=2) nd rfl (av53.l 2 rfl) rfl mi (cf (av Dfeeds_of hr (gl53.g 0 rfl) pass0 (aa (qv av53 0 rfl) ab ae) fA)) (fun _ _ _ _ _=>(aG (i:=0) mi.nd rfl (Or.inl (mj.k 0 rfl)) (Or.inr (mj.k 0 rfl)))) (fun _ _ _ _ _=>bY) (fun _ _ _ _ _=>(gv hu (qw ml 1 rfl) (qw ml 0 rfl) (fun _ _=>rfl))) rfl) (aj (aw (ay aB (ak aH (qv av53 0 rfl) ag (fun _ _=>rfl)) aq (nomark _)) (ai (au (aD (aa aq (aa (ak aH (qv av53 0 rfl) ag (fun _ _=>rfl)) (aa (ak aC (qv av53 2 rfl) ag (fun _ _=>rfl)) ab aK) aK) ax)))) az) (ai (au (bQ dP (gl53.g 1 rfl) z_tuple dt (aa (ar dQ (bD (aa (ak aH (qv av53 0 rfl) ag (fun _ _=>rfl)) ab aK)) (qv av53 2 rfl)) ab bh) du dz)))))),?_⟩
 (try dsimp only [cxOf])
 have fl3:g.feeds.length<=3:=by cases g <;> simp [Gt.feeds]
 walk_at "rd";rename_i fr H2 c2 nfr hfr;have hd2:=c2.get hd (by simp)
 have hp2:=c2.get hp (by simp)
 refine dq (g.feeds.map nV) (fun j zs σ H'=>H'=H2/\zs=(g.feeds.take j).map (fun a=>nV (ρ a))/\∃ u,σ=[u,some (.ref d)]) (by rw [yS,zf]; omega) ⟨rfl,rfl,_,rfl⟩ ?_ ?_ ?_
 ·rintro j zs σ H' hj ⟨rfl,rfl,_⟩
  exact ⟨by simp [zH]; omega,SqL.of hfr⟩
 ·rintro j zs σ H' x hx ⟨rfl,rfl,u,rfl⟩
  rw [yY] at hx;obtain ⟨a,ha,rfl⟩:=zt.mp hx;have va:=hv a (zc ha);unfold nV at *;walk_at "rd";refine ⟨?_,_,rfl⟩;rw [zx,ha];simp
 ·rintro zs σ H' ⟨rfl,rfl,_⟩
  rw [yS,zu];intro D hD;have cD:=Ch.new (W:=[]) hD (.lst (g.feeds.map fun a=>nV (ρ a)))
  have hp3:=cD.get hp2 (by simp)
  have hD3:upd H' D (.lst (g.feeds.map fun a=>nV (ρ a))) D=_:=ah
  have c3:=c2.trans cD;generalize upd H' D (HO.lst (g.feeds.map fun a=>nV (ρ a)))=H3 at hp3 hD3 c3 ⊢
  clear hp2 hd2 cD hD;have hk2:=v7 g;obtain ⟨rs,ev⟩:=eJ g;cases hk:g.isKeep with
  | true =>
   obtain ⟨ff,a,rfl⟩:∃ ff a,g=.keep ff a:=by cases g <;> first | exact ⟨_,_,rfl⟩ | (cases hk)
   have hp3:H3 p=some (.tup [.str "keep",.int ff,.int a]):=hp3;have hD3:H3 D=some (.lst [nV (ρ a)]):=hD3;walk_at "rd";rename_i T hT;exact q _ _ (c3.trans (Ch.new hT _)) ah
  | false =>
   rw [hk] at hk2;have rv:=v3 ρ hk;rw [ev] at hp3;walk_at "rd";rw [hk2];refine iteF ?_;walk_at "rd";rename_i e1 he1 e2 he2 e3 he3;exact q _ _ (((c3.trans (Ch.new he1 _)).trans (Ch.new he2 _)).trans (Ch.new he3 _)) (by rw [ah,rv]; rfl)
end
end

section
local macro_rules | `(tactic| walk_at "user")=>`(tactic| first
 | (apply iD; (focus walk_at "get"); (focus with_reducible assumption))
 | (apply iE; (focus walk_at "get"); (focus with_reducible assumption))
 | (apply dputI; (focus walk_at "get"); (focus walk_at "arith")))
structure MS (H0 H:Hp) (gl pl:Addr) (gs:List Gt) (prs:List (Nat × Str)):Prop where
 ch:Ch [] H0 H
 g:∃ xs,H gl=some (.lst xs)/\Gs H gs xs
 p:∃ ps,H pl=some (.lst ps)/\Prs H prs ps
theorem MS.same {H:Hp} (m:MS H0 H gl pl gs prs) (c:Ch [] H H1):MS H0 H1 gl pl gs prs :=
 ⟨m.ch.trans c,let ⟨xs,a,b⟩:=m.g; ⟨xs,c.get a (by simp),b.tu (Tu.same c)⟩,let ⟨xs,a,b⟩:=m.p; ⟨xs,c.get a (by simp),b.tu (Tu.same c)⟩⟩
structure PD (l:List Nat) (i:Nat) (kvs:List (Key × V)):Prop where
 len:kvs.length<=i
 val:∀ j n:Nat,j < i->l[j]?=some n->valV kvs (.inl (n:Int))=some (nV j)
theorem PD.put (h:PD l i kvs) (nd:l.Nodup) (e:l[i]?=some n):PD l (i + 1) (putK kvs (.inl (n:Int)) (nV i)):=by
 refine ⟨zy (eA _ _ _) (by have:=h.len; omega),fun j m hj em=>?_⟩
 rw [fW]
 by_cases z:m=n
 ·subst z
  rw [yN rfl,lY nd e em]
 ·rw [yM (fun y=>z (by have:=Sum.inl.inj y; omega))]
  refine h.val j m ?_ em
  by_cases y:j=i
  ·subst y; rw [e] at em; exact absurd (zp em).symm z
  ·omega
theorem PD.all (h:PD (od W N) N kvs) (hn:n < N):valV kvs (.inl (n:Int))=some (nV (rk W N n)):=by
 have e:=iV (W:=W) hn;refine h.val _ n ?_ e;have:=(yR.mp e).1
 rwa [fB] at this
theorem gQ (W:Nat->Bool) (N:Nat):(kp W N).length<=N:=by
 have:=List.length_filter_le W (List.range N)
 rwa [List.length_range] at this
theorem Gs.snoc{xs:List V}{p:Addr} (h:Gs H gs xs) (hp:H p=some (.tup g.vs)):Gs H (gs++[g]) (xs++[.ref p]):=by
 refine ⟨by simp [h.len],fun i g' e=>?_⟩
 rcases bT e with ⟨hi,e⟩ | ⟨rfl,rfl⟩
 ·obtain ⟨p',h1,h2⟩:=h.at_ i g' e
  exact ⟨p',by rw [zb (by rw [h.len]; exact hi)]; exact h1,h2⟩
 ·exact ⟨p,by rw [<- h.len]; simp,hp⟩
theorem Gs.nil (H:Hp):Gs H [] []:=⟨rfl,fun i g e=>by simp at e⟩
theorem NetAt.ch{H:Hp}{op:Addr}{xs:List V} (n:NetAt C H nt gp op gs xs os) (c:Ch [] H H'):NetAt C H' nt gp op gs xs os :=
 ⟨n.ob.imp fun _ h=>c.get h (by simp),c.get n.gt (by simp),n.gg.tu (Tu.same c),c.get n.ot (by simp)⟩
structure Mde (CN:Addr) (H0 H:Hp) (R:Addr) (net:List Gt) (os:List Nat) (W:Nat->Bool):Prop where
 wd:Wd (gsF net) (os.map (rho (shr net).2)) W
 ex:∃ nt pp ll ql gp op:Addr,∃ xs zs qs:List V,H R=some (.tup [.ref nt,.ref pp])/\H pp=some (.tup [.ref ll,.ref ql])/\NetAt CN H nt gp op (sml (gsF net) W) xs (os.map fun o=>rk W (gsF net).length (rho (shr net).2 o)) /\
  H ll=some (.lst zs)/\Gs H (sel (gsF net) (rk W (gsF net).length) (kp (nW W) (gsF net).length)) zs/\H ql=some (.lst qs)/\Prs H ((shr net).2.map fun p=>(rk W (gsF net).length p.1,p.2)) qs/\H0 ll=none/\H0 ql=none
section
variable {P:Program}{w:World}{K:PySem.W.Frag}{mg:Str->Option Value}{base:Heap}{f:Addr}{fd:FuncData}{k:Nat}
theorem v9:Nd "shrunk" := ∅
theorem wa:Nd "wanted_of" := ∅
theorem mm:Nd "renumbered" := ∅
theorem iY:Nd "Net" := ∅
theorem av54:AF (defScope (top 54)) ["net", "made", "gates", "pairs", "wanted", "kept", "lost", "places", "place", "number", "small", "lost_gates"]:=⟨∅⟩
theorem gl54:AG (defScope (top 54)) ["shrunk", "wanted_of", "range", "len", "enumerate", "Net"]:=⟨∅⟩
def iZ:Scope:=⟨.function,[(".0",.local),("out",.local),("pairs",.free)],false,false,[]⟩
theorem mn:CompOk iZ (defScope (top 54)) (["out"]:List Str) (["net", "made", "gates", "pairs", "wanted", "kept", "lost", "places", "place", "number", "small", "lost_gates"]:List Str) [3] (["out", "pairs"]:List Str):=compOk rfl ∅ ∅ ∅ ∅ rfl ∅
theorem mq:AK (relab iZ (defScope (top 54))) ["out"]:=⟨∅⟩
theorem mr:AV (relab iZ (defScope (top 54))) ["out", "pairs"]:=⟨∅⟩
def i0:Scope:=⟨.function,[(".0",.local),("number",.local),("wanted",.free)],false,false,[]⟩
theorem mv:CompOk i0 (defScope (top 54)) (["number"]:List Str) (["net", "made", "gates", "pairs", "wanted", "kept", "lost", "places", "place", "number", "small", "lost_gates"]:List Str) [4] (["number", "wanted"]:List Str):=compOk rfl ∅ ∅ ∅ ∅ rfl ∅
theorem mw:AK (relab i0 (defScope (top 54))) ["number"]:=⟨∅⟩
theorem i3:AV (relab i0 (defScope (top 54))) ["number", "wanted"]:=⟨∅⟩
def i4:Scope:=⟨.function,[(".0",.local),("number",.local),("wanted",.free)],false,false,[]⟩
theorem mx:CompOk i4 (defScope (top 54)) (["number"]:List Str) (["net", "made", "gates", "pairs", "wanted", "kept", "lost", "places", "place", "number", "small", "lost_gates"]:List Str) [4] (["number", "wanted"]:List Str):=compOk rfl ∅ ∅ ∅ ∅ rfl ∅
theorem my:AK (relab i4 (defScope (top 54))) ["number"]:=⟨∅⟩
theorem i6:AV (relab i4 (defScope (top 54))) ["number", "wanted"]:=⟨∅⟩
def i7:Scope:=⟨.function,[(".0",.local),("out",.local),("pairs",.free),("places",.free)],false,false,[]⟩
theorem mz:CompOk i7 (defScope (top 54)) (["out"]:List Str) (["net", "made", "gates", "pairs", "wanted", "kept", "lost", "places", "place", "number", "small", "lost_gates"]:List Str) [7,3] (["out", "places", "pairs"]:List Str):=compOk rfl ∅ ∅ ∅ ∅ rfl ∅
theorem mB:AK (relab i7 (defScope (top 54))) ["out"]:=⟨∅⟩
theorem i8:AV (relab i7 (defScope (top 54))) ["out", "places", "pairs"]:=⟨∅⟩
def gS:Scope:=⟨.function,[(".0",.local),("number",.local),("renumbered",.globalImplicit),("gates",.free),("places",.free)],false,false,[]⟩
theorem mC:CompOk gS (defScope (top 54)) (["number"]:List Str) (["net", "made", "gates", "pairs", "wanted", "kept", "lost", "places", "place", "number", "small", "lost_gates"]:List Str) [2,7] (["number", "gates", "places"]:List Str):=compOk rfl ∅ ∅ ∅ ∅ rfl ∅
theorem mD:AK (relab gS (defScope (top 54))) ["number"]:=⟨∅⟩
theorem wb:AG (relab gS (defScope (top 54))) ["renumbered"]:=⟨∅⟩
theorem i9:AV (relab gS (defScope (top 54))) ["number", "gates", "places"]:=⟨∅⟩
def gT:Scope:=⟨.function,[(".0",.local),("number",.local),("renumbered",.globalImplicit),("gates",.free),("places",.free)],false,false,[]⟩
theorem mE:CompOk gT (defScope (top 54)) (["number"]:List Str) (["net", "made", "gates", "pairs", "wanted", "kept", "lost", "places", "place", "number", "small", "lost_gates"]:List Str) [2,7] (["number", "gates", "places"]:List Str):=compOk rfl ∅ ∅ ∅ ∅ rfl ∅
theorem mF:AK (relab gT (defScope (top 54))) ["number"]:=⟨∅⟩
theorem wc:AG (relab gT (defScope (top 54))) ["renumbered"]:=⟨∅⟩
theorem ja:AV (relab gT (defScope (top 54))) ["number", "gates", "places"]:=⟨∅⟩
def jb:Scope:=⟨.function,[(".0",.local),("number",.local),("why",.local),("places",.free)],false,false,[]⟩
theorem jc:CompOk jb (defScope (top 54)) (["number", "why"]:List Str) (["net", "made", "gates", "pairs", "wanted", "kept", "lost", "places", "place", "number", "small", "lost_gates"]:List Str) [7] (["number", "why", "places"]:List Str):=compOk rfl ∅ ∅ ∅ ∅ rfl ∅
theorem gU:AK (relab jb (defScope (top 54))) ["number", "why"]:=⟨∅⟩
theorem jd:AV (relab jb (defScope (top 54))) ["number", "why", "places"]:=⟨∅⟩
def spMad (CN:Addr):Sp:=fun vs H Q _=>∃ (nt gp op:Addr) (net:List Gt) (xs:List V) (os:List Nat),vs=[.ref nt]/\NetAt CN H nt gp op net xs os/\Oks net/\net.length<=200/\(∀ o∈os,o < net.length)/\os.length<=200 /\
 ∀ (R:Addr) (W:Nat->Bool) (H':Hp),Ch [] H H'->Mde CN H H' R net os W->Q (.ref R) H'
theorem scMad:FnScope ["net", "made", "gates", "pairs", "wanted", "kept", "lost", "places", "place", "number", "small", "lost_gates"] ["net"] (defScope (top 54)):=⟨rfl,rfl,rfl,∅,rfl,∅,∅⟩
theorem we (F:Fun K "made_small" "made_small" (top 54) f fd) (clN:Cls K CN) (nNG:NoAttr K CN "gates") (nNO:NoAttr K CN "outs") (MkNet:MakeOk P w K mg base CX0 k CN "Net" ["self", "gates", "outs"] (spNet CN)) (Dshrunk:DefOk P w K mg base CX0 (k + 1) "shrunk" ["net"] (spShk CN))
  (Dwanted_of:DefOk P w K mg base CX0 (k + 1) "wanted_of" ["gates", "outs"] spWan) (Drenumbered:DefOk P w K mg base CX0 (k + 1) "renumbered" ["gate", "places"] spRen) (z_range:mg "range" = none) (z_len:mg "len" = none) (z_enumerate:mg "enumerate" = none):FnOk P w K mg base CX0 (k + 2) f fd ["net"] (spMad CN):=by
 have nd:=scMad.nd;refine F.ok scMad (fun vs H Q E h=>by obtain ⟨nt,gp,op,net,xs,os,rfl,_⟩:=h; rfl) (fun cdv A outer s0 H vs Q E hr h=>?_)
 obtain ⟨nt,gp,op,net,xs,os,rfl,na,ok,sz,lo,zo,q⟩:=h;have hu:=eV hr;have hrm:=hr;refine ⟨_,(Pr.h (aj (aE (i:=1) nd rfl (av54.l 1 rfl) (av Dshrunk hr (gl54.g 0 rfl) pass0 (aa (qv av54 0 rfl) ab ae) v9)) (aj (aE (i:=2) nd rfl (av54.l 2 rfl) (ak aH (qv av54 1 rfl) ag (fun _ _=>rfl))) (bG (aE (i:=3) nd rfl (av54.l 3 rfl) (ak aH (qv av54 1 rfl) ag (fun _ _=>rfl))) (bG (aE (i:=4) nd rfl (av54.l 4 rfl) (av Dwanted_of hr (gl54.g 1 rfl) pass0 (aa (qv av54 2 rfl) (aa (cq rfl mn (eY (aT (qv av54 0 rfl) rfl)) (fun _ _ _ _ _=>(aG (i:=0) mn.nd rfl (Or.inl (mq.k 0 rfl)) (Or.inr (mq.k 0 rfl)))) (fun _ _ _ _ _=>bY) (fun _ _ _ _ _=>(ak (cV K rfl) (ak (dr K rfl) (qw mr 1 rfl) (qw mr 0 rfl) (fun _ _=>rfl)) ag (fun _ _=>rfl)))) ab dE) ae) wa)) (aj (eI (i:=5) nd rfl (av54.l 5 rfl) rfl mv (cU (gl54.g 2 rfl) z_range (aa (aF aL (gl54.g 3 rfl) z_len yX (aa (qv av54 2 rfl) ab ae) aM aO) ab bb)) (fun _ _ _ _ _=>(aG (i:=0) mv.nd rfl (Or.inl (mw.k 0 rfl)) (Or.inr (mw.k 0 rfl)))) (fun _ _ _ _ _=>(gq (t7 hu (qw i3 0 rfl) (qw i3 1 rfl)))) (fun _ _ _ _ _=>(qw i3 0 rfl)) rfl) (aj (eI (i:=6) nd rfl (av54.l 6 rfl) rfl mx (cU (gl54.g 2 rfl) z_range (aa (aF aL (gl54.g 3 rfl) z_len yX (aa (qv av54 2 rfl) ab ae) aM aO) ab bb)) (fun _ _ _ _ _=>(aG (i:=0) mx.nd rfl (Or.inl (my.k 0 rfl)) (Or.inr (my.k 0 rfl)))) (fun _ _ _ _ _=>(gq (iC hu (qw i6 0 rfl) (qw i6 1 rfl)))) (fun _ _ _ _ _=>(qw i6 0 rfl)) rfl) (bG (aE (i:=7) nd rfl (av54.l 7 rfl) kT) (aj (bB zm rfl (dU .list (gl54.g 4 rfl) z_enumerate (aa (ar dQ (qv av54 5 rfl) (qv av54 6 rfl)) ab bh)) (cg rfl (aX (aG (i:=8) nd rfl (av54.l 8 rfl)) (aX (aG (i:=9) nd rfl (av54.l 9 rfl)) bS))) (ai (gw hu (qv av54 7 rfl) (qv av54 9 rfl) (qv av54 8 rfl) rfl))) (bG (aE (i:=10) nd rfl (av54.l 10 rfl) (fb MkNet hrm (gl54.g 5 rfl) pass0 (aa (cq rfl mC (cf (qv av54 5 rfl)) (fun _ _ _ _ _=>(aG (i:=0) mC.nd rfl (Or.inl (mD.k 0 rfl)) (Or.inr (mD.k 0 rfl)))) (fun _ _ _ _ _=>bY) (fun _ _ _ _ _=>(av Drenumbered hr (wb.g 0 rfl) pass0 (aa (ak (dr K rfl) (qw i9 1 rfl) (qw i9 0 rfl) (fun _ _=>rfl)) (aa (qw i9 2 rfl) ab ae) aK) mm))) (aa (cq rfl mz (eY (aT (qv av54 0 rfl) rfl)) (fun _ _ _ _ _=>(aG (i:=0) mz.nd rfl (Or.inl (mB.k 0 rfl)) (Or.inr (mB.k 0 rfl)))) (fun _ _ _ _ _=>bY) (fun _ _ _ _ _=>(gv hu (qw i8 1 rfl) (ak (cV K rfl) (ak (dr K rfl) (qw i8 2 rfl) (qw i8 0 rfl) (fun _ _=>rfl)) ag (fun _ _=>rfl)) (fun _ _=>rfl)))) ab dE) dE) iY)) (bG (eI (i:=11) nd rfl (av54.l 11 rfl) rfl mE (cf (qv av54 6 rfl)) (fun _ _ _ _ _=>(aG (i:=0) mE.nd rfl (Or.inl (mF.k 0 rfl)) (Or.inr (mF.k 0 rfl)))) (fun _ _ _ _ _=>bY) (fun _ _ _ _ _=>(av Drenumbered hr (wc.g 0 rfl) pass0 (aa (ak (dr K rfl) (qw ja 1 rfl) (qw ja 0 rfl) (fun _ _=>rfl)) (aa (qw ja 2 rfl) ab ae) aK) mm)) rfl) (ai (au (aD (aa (qv av54 10 rfl) (aa (aD (aa (qv av54 11 rfl) (aa (cq rfl jc (cf (qv av54 3 rfl)) (fun _ _ _ _ _=>(iB K 2 rfl rfl (aX (aG (i:=0) jc.nd rfl (Or.inl (gU.k 0 rfl)) (Or.inr (gU.k 0 rfl))) (aX (aG (i:=1) jc.nd rfl (Or.inl (gU.k 1 rfl)) (Or.inr (gU.k 1 rfl))) bS)))) (fun _ _ _ _ _=>bY) (fun _ _ _ _ _=>(aD (aa (gv hu (qw jd 2 rfl) (qw jd 0 rfl) (fun _ _=>rfl)) (aa (qw jd 1 rfl) ab ae) aK)))) ab dE) ae)) ab bw) ae))))))))))))))),?_⟩
 (try dsimp only [cxOf])
 have lg:=gN ok;have zg:=lg.sz;obtain ⟨⟨dn,hn⟩,hg,gg,ho⟩:=id na;have f2:=fq gp op;walk_at "rd";refine bC (fun σ H'=>∃ made gl pl,σ=[some (.ref nt),some (.ref made),some (.ref gl),some (.ref pl),none,none,none,none,none,none,none,none]/\MS H H' gl pl (gsF net) (shr net).2) ?_ ?_
 ·walk_at "rd"
  rename_i R gl pl xs1 ps1 H1 c1 hR hgl ggl hpl pp;exact ⟨c1,⟨_,hgl,ggl⟩,⟨_,hpl,pp⟩⟩
 rintro σ H1 ⟨made,gl,pl,rfl,ms1⟩;clear gg;obtain ⟨gs,egs⟩:∃ gs,gsF net=gs:=⟨_,rfl⟩;obtain ⟨prs,eps⟩:∃ prs,(shr net).2=prs:=⟨_,rfl⟩;rw [egs,eps] at lg ms1;rw [egs] at zg;have hrho:∀ {o:Nat},o < net.length->∃ p:Nat × Str,prs[o]?=some p/\rho prs o=p.1/\p.1 < gs.length:=fun {o} h=>by
  have hl:o < prs.length:=by rw [lg.pl]; exact h
  refine ⟨_,yO hl,?_,lg.pt o _ (yO hl)⟩;unfold rho;rw [zi,yO hl]; rfl
 refine bC (fun σ H'=>∃ d W kvs,σ=[some (.ref nt),some (.ref made),some (.ref gl),some (.ref pl),some (.ref d),none,none,none,none,none,none,none]/\MS H H' gl pl gs prs/\H' d=some (.dK kvs)/\DW gs.length W kvs/\Wd gs (os.map (rho prs)) W) ?_ ?_
 ·have hn1:=ms1.ch.get hn (by simp)
  have ho1:=ms1.ch.get ho (by simp)
  walk_at "rd";refine gm (os.map nV) (fun j zs σ H'=>H'=H1/\zs=((os.take j).map (rho prs)).map nV/\∃ u,σ=[u,some (.ref pl)]) (by rw [yS,zf]; omega) ⟨rfl,rfl,_,rfl⟩ ?_ ?_ ?_
  ·rintro j zs σ H' hj ⟨rfl,rfl,_⟩
   exact ⟨by simp [zH]; omega,SqT.of ho1⟩
  ·rintro j zs σ H' x hx ⟨rfl,rfl,u,rfl⟩
   rw [yY] at hx;obtain ⟨o,ho',rfl⟩:=zt.mp hx;obtain ⟨p,e1,e2,e3⟩:=hrho (lo o (zc ho'));obtain ⟨ps,hps,pp⟩:=ms1.p;obtain ⟨a,e4,e5⟩:=pp.at_ o p e1;have at1:=bA e4;unfold nV at *;walk_at "rd";refine ⟨?_,_,rfl⟩;rw [zx,ho'];simp [e2]
  ·rintro zs σ H' ⟨rfl,rfl,_⟩
   rw [yS,zu];intro D hD;have msD:=ms1.same (Ch.new hD (.lst ((os.map (rho prs)).map nV)));obtain ⟨xs2,hg2,gg2⟩:=msD.g;have lo2:∀ o∈os.map (rho prs),o < gs.length:=fun o m=>by
    obtain ⟨o',m',rfl⟩:=Aa.mp m;obtain ⟨p,e1,e2,e3⟩:=hrho (lo o' m');rw [e2]; exact e3
   have lf2:∀ (i:Nat) (g:Gt),gs[i]?=some g->∀ a∈g.feeds,a < gs.length:=fun i g e a m=>by
    have o:=lg.ok i g e;have hi:=(yR.mp e).1
    by_cases hs:g.src=true
    ·cases g <;> simp only [Gt.ok,Gt.feeds,yZ,ze,zh,zI] at * <;> first | (cases hs; done) | (rw [m]; exact o.2.2)
    ·exact Ar (da o (by simpa using hs) a m) hi
   refine ⟨gl,D,gs,xs2,os.map (rho prs),rfl,hg2,gg2,ah,lo2,lf2,by omega,by rw [yS]; exact zo,fun d W kvs H3 c3 hd dw wd=>?_⟩
   exact ⟨d,W,kvs,rfl,msD.same c3,hd,dw,wd⟩
 rintro σ H2 ⟨d,W,kvs,rfl,ms2,hd,dw,wd⟩;have xsl:∃ xs2,H2 gl=some (.lst xs2)/\xs2.length=gs.length:=by obtain ⟨xs2,hg2,gg2⟩:=ms2.g; exact ⟨xs2,hg2,gg2.len⟩
 obtain ⟨xs2,hg2,lx2⟩:=xsl;walk_at "rd";refine iA (fun i ys σ H'=>H'=H2/\ys=(kp W i).map nV/\∃ u,σ=[u,some (.ref d)]) (by rw [zf]; omega) ⟨rfl,rfl,_,rfl⟩ ?_ ?_ ?_
 ·rintro i ys σ H' hi ⟨rfl,rfl,_⟩
  rw [yS]; exact gQ W i
 ·rintro i ys σ H' hi ⟨rfl,rfl,u,rfl⟩
  have dv:=dw.val i;rw [Int.zero_add];cases hW:W i with
  | true =>
   rw [hW] at dv;have dv:valV kvs (.inl (i:Int))=some (.bl true):=dv;walk_at "rd";refine ⟨?_,_,rfl⟩;rw [dN,hW]; simp [nV]
  | false =>
   rw [hW] at dv;have dv:valV kvs (.inl (i:Int))=none:=dv;walk_at "rd";refine ⟨?_,_,rfl⟩;rw [dN,hW]; simp
 rintro ys σ H' ⟨rfl,rfl,_⟩;intro kl hkl;rw [show (xs2.length:Int).toNat=gs.length by omega]
 have cK:=Ch.new (W:=[]) hkl (.lst ((kp W gs.length).map nV));have hk3:upd H' kl (.lst ((kp W gs.length).map nV)) kl=_:=ah;have ms3:=ms2.same cK;have hd3:=cK.get hd (by simp)
 have hg3:=cK.get hg2 (by simp)
 generalize upd H' kl (HO.lst ((kp W gs.length).map nV))=H3 at hk3 ms3 hd3 hg3 ⊢;clear hd hg2 ms2 cK hkl;walk_at "rd";refine iA (fun i ys σ H'=>H'=H3/\ys=(kp (nW W) i).map nV/\∃ u,σ=[u,some (.ref d)]) (by rw [zf]; omega) ⟨rfl,rfl,_,rfl⟩ ?_ ?_ ?_
 ·rintro i ys σ H' hi ⟨rfl,rfl,_⟩
  rw [yS]; exact gQ _ i
 ·rintro i ys σ H' hi ⟨rfl,rfl,u,rfl⟩
  have dv:=dw.val i;rw [Int.zero_add];cases hW:W i with
  | true =>
   rw [hW] at dv;have dv:valV kvs (.inl (i:Int))=some (.bl true):=dv;walk_at "rd";refine ⟨?_,_,rfl⟩;rw [dN]; simp [nW,hW]
  | false =>
   rw [hW] at dv;have dv:valV kvs (.inl (i:Int))=none:=dv;walk_at "rd";refine ⟨?_,_,rfl⟩;rw [dN]; simp [nW,hW,nV]
 rintro ys σ H' ⟨rfl,rfl,_⟩;intro ll hll;rw [show (xs2.length:Int).toNat=gs.length by omega]
 have cK:=Ch.new (W:=[]) hll (.lst ((kp (nW W) gs.length).map nV));have hl4:upd H' ll (.lst ((kp (nW W) gs.length).map nV)) ll=_:=ah;have ms4:=ms3.same cK;have hk4:=cK.get hk3 (by simp)
 generalize upd H' ll (HO.lst ((kp (nW W) gs.length).map nV))=H4 at hl4 ms4 hk4 ⊢;clear hd3 hg3 ms3 cK hll hk3;have lk1:=gQ W gs.length;have lk2:=gQ (nW W) gs.length;refine bC (fun σ H'=>∃ pd,σ=[some (.ref nt),some (.ref made),some (.ref gl),some (.ref pl),some (.ref d),some (.ref kl),some (.ref ll),some (.ref pd),none,none,none,none]/\MS H H' gl pl gs prs/\H' pd=some (.dK [])/\Ch [] H4 H'/\H pd=none/\H4 pd=none) ?_ ?_
 ·walk_at "rd"
  rename_i pd hpd;exact ⟨ms4.same (Ch.new hpd _),ah,Ch.new hpd _,chFree ms4.ch hpd,hpd⟩
 rintro σ H5 ⟨pd,rfl,ms5,hp5,c45,fpd,fpd4⟩;have hk5:=c45.get hk4 (by simp)
 have hl5:=c45.get hl4 (by simp)
 walk_at "rd";rename_i ol hol;have eod:(kp W gs.length).map nV++(kp (nW W) gs.length).map nV=(od W gs.length).map nV:=by unfold od; rw [Ap]
 rw [eod];have cO:=Ch.new (W:=[]) hol (.lst ((od W gs.length).map nV));have ho6:upd H5 ol (.lst ((od W gs.length).map nV)) ol=_:=ah;have ms6:=ms5.same cO;have hp6:=cO.get hp5 (by simp)
 have c46:=c45.trans cO;have nop:ol≠pd:=(aY hp5 hol).symm;generalize upd H5 ol (HO.lst ((od W gs.length).map nV))=H6 at ho6 ms6 hp6 c46 ⊢;have oln:(od W gs.length).length=gs.length:=fB W gs.length;refine eZ (xs:=(od W gs.length).map nV) (fun i σ H'=>∃ kv2 u v,σ=[some (.ref nt),some (.ref made),some (.ref gl),some (.ref pl),some (.ref d),some (.ref kl),some (.ref ll),some (.ref pd),u,v,none,none]/\H' pd=some (.dK kv2)/\PD (od W gs.length) i kv2/\Ch [] H4 H'/\Ch [pd] H6 H') ⟨[],_,_,rfl,hp6,⟨yP _,fun j n h=>absurd h (Nat.not_lt_zero _)⟩,c46,Ch.refl _ _⟩ ?_ ?_ ?_
 ·rintro i σ H' hi ⟨kv2,u,v,rfl,h1,h2,h3,h4⟩
  exact SqL.of (h4.get ho6 (by simpa using nop))
 ·rintro i x σ H' T hx ⟨kv2,u,v,rfl,h1,h2,h3,h4⟩ hT
  rw [yY] at hx;obtain ⟨n,hn',rfl⟩:=zt.mp hx;have hi:i < gs.length:=by rw [<- oln]; exact (yR.mp hn').1
  have kl2:=h2.len;have pu:=h2.put (vX W gs.length) hn';unfold nV at *;walk_at "rd";rename_i b o hb nb;exact ((h4.trans (Ch.new hT _)).trans Ch.put) b o hb nb
 ·rintro σ H7 ⟨kv2,u,v,rfl,h1,h2,h3,h4⟩
  rw [yS,oln] at h2;have ms7:=ms4.same h3;have hk7:=h3.get hk4 (by simp)
  have hl7:=h3.get hl4 (by simp)
  have hv:∀ n:Nat,n < gs.length->valV kv2 (.inl (n:Int))=some (nV (rk W gs.length n)):=fun n hn=>h2.all hn
  clear h2 h4 ms6 hp6 c46 ho6 ms5 hp5 hk5 hl5 c45 ms4 hk4 hl4 cO h3;have comp2:∀ (l:List Nat) (la:Addr) (H8:Hp) (Q':List V->Hp->Prop),H8 la=some (.lst (l.map nV))->(∀ n∈l,n < gs.length)->l.length<=200->MS H H8 gl pl gs prs->H8 pd=some (.dK kv2) ->
    (∀ ys H9,Ch [] H8 H9->Gs H9 (sel gs (rk W gs.length) l) ys->Q' ys H9)->Comp (Itl K la) (gName 0) tYes (tCall spRen [] E0 (tCons (tOp (aIxL K) (tVar 1) (tVar 0)) (tCons (tVar 2) tNil))) Q' [none,some (.ref gl),some (.ref pd)] H8:=by
   intro l la H8 Q' hla hl8 hz8 ms8 hp8 q8;refine dq (l.map nV) (fun i ys σ H'=>Ch [] H8 H'/\Gs H' (sel gs (rk W gs.length) (l.take i)) ys/\∃ u,σ=[u,some (.ref gl),some (.ref pd)]) (by rw [yS,zf]; omega) ⟨Ch.refl _ _,Gs.nil _,_,rfl⟩ ?_ ?_ ?_
   ·rintro i ys σ H' hi ⟨c,g9,_⟩
    refine ⟨?_,SqL.of (c.get hla (by simp))⟩
    have:=g9.len;unfold sel at this;rw [this,yS,zH]; omega
   ·rintro i ys σ H' x hx ⟨c,g9,u,rfl⟩
    rw [yY] at hx;obtain ⟨n,hn',rfl⟩:=zt.mp hx;have nl:=hl8 n (zc hn');obtain ⟨g,eg⟩:∃ g,gs[n]?=some g:=⟨_,yO nl⟩;obtain ⟨xs9,hg9,gg9⟩:=(ms8.same c).g;obtain ⟨p,ep,hp⟩:=gg9.at_ n g eg;have at1:=bA ep;have hp9:=c.get hp8 (by simp)
    have hf:∀ a∈g.feeds,valV kv2 (.inl (a:Int))=some (nV (rk W gs.length a)):=fun a ha=>hv a (by
     have o:=lg.ok n g eg
     by_cases hs:g.src=true
     ·cases g <;> simp only [Gt.ok,Gt.feeds,yZ,ze,zh,zI] at * <;> first | (cases hs; done) | (rw [ha]; exact o.2.2)
     ·exact Ar (da o (by simpa using hs) a ha) nl)
    have es:sel gs (rk W gs.length) (l.take (i + 1))=sel gs (rk W gs.length) (l.take i)++[g.ren (rk W gs.length)]:=by
     unfold sel;rw [zx,hn',Ap];simp [zi,eg]
    rw [es];unfold nV;walk_at "rd";rename_i r9 H9 c9 hr9;exact ⟨(g9.tu (Tu.same c9)).snoc hr9,_,rfl⟩
   ·rintro ys σ H' ⟨c,g9,_⟩
    rw [yS,zu] at g9;exact q8 ys H' c g9
  have hro:∀ o∈os,rk W gs.length (rho prs o) < (sml gs W).length:=fun o m=>iW wd (wd.out _ (Aa.mpr ⟨o,m,rfl⟩))
  have ksz:(sml gs W).length<=200:=by unfold sml sel; rw [yS]; omega
  have kmem:∀ n∈kp W gs.length,n < gs.length:=fun n m=>by obtain ⟨j,hj⟩:=Av m; exact (gO hj).2.1
  have lmem:∀ n∈kp (nW W) gs.length,n < gs.length:=fun n m=>by obtain ⟨j,hj⟩:=Av m; exact (gO hj).2.1
  refine bC (fun σ H'=>∃ nt' gp' op' xs',σ=[some (.ref nt),some (.ref made),some (.ref gl),some (.ref pl),some (.ref d),some (.ref kl),some (.ref ll),some (.ref pd),u,v,some (.ref nt'),none]/\Ch [] H7 H'/\NetAt CN H' nt' gp' op' (sml gs W) xs' (os.map fun o=>rk W gs.length (rho prs o))) ?_ ?_
  ·walk_at "rd"
   refine comp2 (kp W gs.length) kl H7 _ hk7 kmem (by omega) ms7 h1 (fun ys H9 c9 g9=>?_)
   intro D hD;have cD:=Ch.new (W:=[]) hD (.lst ys);have hD9:upd H9 D (.lst ys) D=some (.lst ys):=ah;have g10:=g9.tu (Tu.same cD);have c7:=c9.trans cD;generalize upd H9 D (HO.lst ys)=H10 at hD9 g10 c7 ⊢;clear hD cD c9 g9;have ms10:=ms7.same c7;have hn10:=ms10.ch.get hn (by simp)
   have ho10:=ms10.ch.get ho (by simp)
   have hp10:=c7.get h1 (by simp)
   walk_at "rd";refine gm (os.map nV) (fun j zs σ H'=>H'=H10/\zs=((os.take j).map (fun o=>rk W gs.length (rho prs o))).map nV/\∃ u,σ=[u,some (.ref pd),some (.ref pl)]) (by rw [yS,zf]; omega) ⟨rfl,rfl,_,rfl⟩ ?_ ?_ ?_
   ·rintro j zs σ H' hj ⟨rfl,rfl,_⟩
    exact ⟨by simp [zH]; omega,SqT.of ho10⟩
   ·rintro j zs σ H' x hx ⟨rfl,rfl,u,rfl⟩
    rw [yY] at hx;obtain ⟨o,ho',rfl⟩:=zt.mp hx;obtain ⟨p,e1,e2,e3⟩:=hrho (lo o (zc ho'));obtain ⟨ps,hps,pp⟩:=ms10.p;obtain ⟨a,e4,e5⟩:=pp.at_ o p e1;have at1:=bA e4;have hv1:=hv p.1 e3;unfold nV at *;walk_at "rd";refine ⟨?_,_,rfl⟩;rw [zx,ho'];simp [e2]
   ·rintro zs σ H' ⟨rfl,rfl,_⟩
    rw [yS,zu];intro D2 hD2;have cD2:=Ch.new (W:=[]) hD2 (.lst ((os.map (fun o=>rk W gs.length (rho prs o))).map nV))
    have hD11:upd H' D2 (.lst ((os.map (fun o=>rk W gs.length (rho prs o))).map nV)) D2=_:=ah
    have hDD:=cD2.get hD9 (by simp)
    have g11:=g10.tu (Tu.same cD2);have c11:=c7.trans cD2;generalize upd H' D2 (HO.lst ((os.map (fun o=>rk W gs.length (rho prs o))).map nV))=H11 at hD11 hDD g11 c11 ⊢
    clear hD2 cD2;intro x dx hx hdx nx;have ci:=Ch.inst (C:=CN) hx hdx nx;refine ⟨x,dx,D,D2,sml gs W,ys,os.map (fun o=>rk W gs.length (rho prs o)),rfl,ah,ci.get hDD (by simp),g11.tu (Tu.same ci),mh wd lg.ok,by omega,ci.get hD11 (by simp),fun o m=>?_,by rw [yS]; omega,fun gp' op' H12 c12 na12=>⟨rfl,?_⟩⟩
    ·obtain ⟨o',m',rfl⟩:=Aa.mp m
     exact hro o' m'
    ·exact ⟨x,gp',op',ys,rfl,c11.trans (Ch.forget (ci.wk.trans c12) (by simpa using hx)),na12⟩
  rintro σ H8 ⟨nt',gp',op',xs',rfl,c78,na8⟩;have ms8:=ms7.same c78;have hl8:=c78.get hl7 (by simp)
  have hp8:=c78.get h1 (by simp)
  refine bC (fun σ H'=>∃ lg' zs,σ=[some (.ref nt),some (.ref made),some (.ref gl),some (.ref pl),some (.ref d),some (.ref kl),some (.ref ll),some (.ref pd),u,v,some (.ref nt'),some (.ref lg')]/\Ch [] H8 H'/\H' lg'=some (.lst zs)/\Gs H' (sel gs (rk W gs.length) (kp (nW W) gs.length)) zs/\H lg'=none) ?_ ?_
  ·walk_at "rd"
   refine comp2 (kp (nW W) gs.length) ll H8 _ hl8 lmem (by omega) ms8 hp8 (fun ys H9 c9 g9=>?_)
   intro D hD;exact ⟨D,ys,rfl,c9.trans (Ch.new hD _),ah,g9.tu (Tu.new _ hD),chFree (ms8.ch.trans c9) hD⟩
  rintro σ H9 ⟨lg',zs,rfl,c89,hlg,gz,flg⟩;have ms9:=ms8.same c89;have hp9:=c89.get hp8 (by simp)
  obtain ⟨ps,hps,pp⟩:=ms9.p;have lps:=pp.len;have lpr:=lg.pl;walk_at "rd";refine dq ps (fun j ys σ H'=>Ch [] H9 H'/\Prs H' ((prs.take j).map fun p=>(rk W gs.length p.1,p.2)) ys/\∃ u1 u2,σ=[u1,u2,some (.ref pd)]) (by rw [zf]; omega) ⟨Ch.refl _ _,⟨rfl,fun i p e=>by simp at e⟩,_,_,rfl⟩ ?_ ?_ ?_
  ·rintro j ys σ H' hj ⟨c,p9,_⟩
   refine ⟨?_,SqL.of (c.get hps (by simp))⟩
   rw [p9.len,yS,zH]; omega
  ·rintro j ys σ H' x hx ⟨c,p9,u1,u2,rfl⟩
   have hj:j < prs.length:=by rw [<- lps]; exact (yR.mp hx).1
   obtain ⟨p,ep⟩:∃ p,prs[j]?=some p:=⟨_,yO hj⟩;obtain ⟨a,e4,e5⟩:=pp.at_ j p ep;rw [hx] at e4;cases e4;have e6:=c.get e5 (by simp)
   have hv1:=hv p.1 (lg.pt j p ep);have hp10:=c.get hp9 (by simp)
   have es:(prs.take (j + 1)).map (fun p=>(rk W gs.length p.1,p.2))=(prs.take j).map (fun p=>(rk W gs.length p.1,p.2))++[(rk W gs.length p.1,p.2)]:=by
    rw [zx,ep,Ap]; rfl
   rw [es];unfold nV at *;walk_at "rd";rename_i T hT;exact ⟨(p9.tu (Tu.new _ hT)).push ah,_,_,rfl⟩
  ·rintro ys σ H' ⟨c,p9,_⟩
   rw [lps,zu] at p9;intro D hD;walk_at "rd";rename_i P1 hP1 P2 hP2;subst egs;subst eps;have cF:Ch [] H' (upd (upd (upd H' D (.lst ys)) P1 (.tup [.ref lg',.ref D])) P2 (.tup [.ref nt',.ref P1])):=((Ch.new hD _).trans (Ch.new hP1 _)).trans (Ch.new hP2 _);exact q P2 W _ ((ms9.ch.trans c).trans cF) ⟨wd,nt',P1,lg',D,gp',op',xs',zs,ys,ah,aA hP2 ah,na8.ch ((c89.trans c).trans cF),(c.trans cF).get hlg (by simp),gz.tu (Tu.same (c.trans cF)),aA hP2 (aA hP1 ah),p9.tu (Tu.same cF),flg,chFree (ms9.ch.trans c) hD⟩
end
end

section
structure GA (H:Hp) (gl:Addr) (al:List Gt):Prop where
 ex:∃ xs,H gl=some (.lst xs)/\Gs H al xs
theorem GA.ch {H:Hp} (g:GA H gl al) (c:Ch [] H H'):GA H' gl al:=let ⟨xs,a,b⟩:=g.ex; ⟨xs,c.get a (by simp),b.tu (Tu.same c)⟩
theorem GA.at{al:List Gt} (r:GA H gl al) (h:al[n]?=some g):∃ xs p,H gl=some (.lst xs)/\atI xs (n:Int)=some (.ref p)/\H p=some (.tup g.vs)/\n < xs.length:=by
 obtain ⟨xs,hg,gg⟩:=r.ex;obtain ⟨p,ep,hp⟩:=gg.at_ n g h;exact ⟨xs,p,hg,bA ep,hp,(yR.mp ep).1⟩
theorem gV (a b:Nat):decide (V.int (a:Int)=V.int (b:Int))=decide (a=b):=by
 by_cases e:a=b
 ·subst e; simp
 ·rw [zv e,zv fun z=>e (by injection z with z; omega)]
theorem bf {a b:Str} (h:decide (V.str a=V.str b)=true):a=b:=V.str.inj (zL h)
theorem bg {a b:Str} (h:¬ decide (V.str a=V.str b)=true):¬ a=b:=fun z=>h (y8 (by rw [z]))
local macro_rules | `(tactic| walk_at "user")=>`(tactic| first
 | (apply GA.ch; (focus with_reducible assumption); (focus walk_at "ch"))
 | exact Gt.vs_sca _)
section
variable {P:Program}{w:World}{K:PySem.W.Frag}{mg:Str->Option Value}{base:Heap}{f:Addr}{fd:FuncData}{k:Nat}
theorem cv:Nd "is_one" := ∅
theorem cw:Nd "is_zero" := ∅
theorem eM:Nd "are_opposed" := ∅
theorem av21:AF (defScope (top 21)) ["gates", "number"]:=⟨∅⟩
theorem mG:FnScope ["gates", "number"] ["gates", "number"] (defScope (top 21)):=⟨rfl,rfl,rfl,∅,rfl,∅,∅⟩
def spIsG (t:List Gt->Nat->Bool):Sp:=fun vs H Q _=>∃ (gl:Addr) (al:List Gt) (n:Nat),vs=[.ref gl,.int (n:Int)]/\GA H gl al/\n < al.length/\∀ H',Ch [] H H'->Q (.bl (t al n)) H'
theorem wg (F:Fun K "is_zero" "is_zero" (top 21) f fd):FnOk P w K mg base CX0 (k + 1) f fd ["gates", "number"] (spIsG isZ):=by
 have nd:=mG.nd;refine F.ok mG (fun vs H Q E h=>by obtain ⟨gl,al,n,rfl,_⟩:=h; rfl) (fun cdv A outer s0 H vs Q E hr h=>?_)
 obtain ⟨gl,al,n,rfl,r,hn,q⟩:=h;refine ⟨_,(Pr.h (ai (au (bo (cu hr.units) (ak aC (qv av21 0 rfl) (qv av21 1 rfl) (fun _ _=>rfl)) (aD (aa aq ab ax)) (nomark _))))),?_⟩
 (try dsimp only [cxOf])
 obtain ⟨g,eg⟩:∃ g,al[n]?=some g:=⟨_,yO hn⟩;obtain ⟨xs,p,hg,at1,hp,lx⟩:=r.at eg;have sc:=Gt.vs_sca g;have sc2:=Gt.vs_sca .zero;have q:∀ H',Ch [] H H'->Q (.bl (decide (al[n]?=some .zero))) H':=q;rw [bI eg] at q;walk_at "rd";rename_i T hT;exact q _ (Ch.new hT _)
theorem av22:AF (defScope (top 22)) ["gates", "number"]:=⟨∅⟩
theorem mH:FnScope ["gates", "number"] ["gates", "number"] (defScope (top 22)):=⟨rfl,rfl,rfl,∅,rfl,∅,∅⟩
theorem wj (F:Fun K "is_one" "is_one" (top 22) f fd):FnOk P w K mg base CX0 (k + 1) f fd ["gates", "number"] (spIsG isO):=by
 have nd:=mH.nd;refine F.ok mH (fun vs H Q E h=>by obtain ⟨gl,al,n,rfl,_⟩:=h; rfl) (fun cdv A outer s0 H vs Q E hr h=>?_)
 obtain ⟨gl,al,n,rfl,r,hn,q⟩:=h;refine ⟨_,(Pr.h (ai (au (bo (cu hr.units) (ak aC (qv av22 0 rfl) (qv av22 1 rfl) (fun _ _=>rfl)) (aD (aa aq ab ax)) (nomark _))))),?_⟩
 (try dsimp only [cxOf])
 obtain ⟨g,eg⟩:∃ g,al[n]?=some g:=⟨_,yO hn⟩;obtain ⟨xs,p,hg,at1,hp,lx⟩:=r.at eg;have sc:=Gt.vs_sca g;have sc2:=Gt.vs_sca .one;have q:∀ H',Ch [] H H'->Q (.bl (decide (al[n]?=some .one))) H':=q;rw [bI eg] at q;walk_at "rd";rename_i T hT;exact q _ (Ch.new hT _)
theorem av23:AF (defScope (top 23)) ["gates", "number", "other"]:=⟨∅⟩
def spOpG:Sp:=fun vs H Q _=>∃ (gl:Addr) (al:List Gt) (a b:Nat),vs=[.ref gl,.int (a:Int),.int (b:Int)]/\GA H gl al/\a < al.length/\b < al.length/\∀ H',Ch [] H H'->Q (.bl (opsd al a b)) H'
theorem mI:FnScope ["gates", "number", "other"] ["gates", "number", "other"] (defScope (top 23)):=⟨rfl,rfl,rfl,∅,rfl,∅,∅⟩
theorem wm (F:Fun K "are_opposed" "are_opposed" (top 23) f fd):FnOk P w K mg base CX0 (k + 1) f fd ["gates", "number", "other"] spOpG:=by
 have nd:=mI.nd;refine F.ok mI (fun vs H Q E h=>by obtain ⟨gl,al,a,b,rfl,_⟩:=h; rfl) (fun cdv A outer s0 H vs Q E hr h=>?_)
 obtain ⟨gl,al,a,b,rfl,r,ha,hb,q⟩:=h;refine ⟨_,(Pr.h (ai (au (dm (bo (cu hr.units) (ak aC (qv av23 0 rfl) (qv av23 1 rfl) (fun _ _=>rfl)) (aD (aa aq (aa (qv av23 2 rfl) ab ae) ax)) (nomark _)) (bc (bo (cu hr.units) (ak aC (qv av23 0 rfl) (qv av23 2 rfl) (fun _ _=>rfl)) (aD (aa aq (aa (qv av23 1 rfl) ab ae) ax)) (nomark _))))))),?_⟩
 (try dsimp only [cxOf])
 obtain ⟨g,eg⟩:∃ g,al[a]?=some g:=⟨_,yO ha⟩;obtain ⟨xs,p,hg,at1,hp,lx⟩:=r.at eg;obtain ⟨g2,eg2⟩:∃ g2,al[b]?=some g2:=⟨_,yO hb⟩;obtain ⟨xs2,p2,hg2,at2,hp2,lx2⟩:=r.at eg2;rw [hg] at hg2;cases hg2;have sc:=Gt.vs_sca g;have sc1:=Gt.vs_sca g2;have sc2:=Gt.vs_sca (.not b);have sc3:=Gt.vs_sca (.not a);have q:∀ H',Ch [] H H'->Q (.bl (decide (al[a]?=some (.not b)) || decide (al[b]?=some (.not a)))) H':=q;rw [bI eg,bI eg2] at q;cases e1:decide (g.vs=(Gt.not b).vs) with
 | true =>
  have e2:decide (g.vs=[V.str "not",V.int b])=true:=e1;rw [e1,Bool.true_or] at q;walk_at "rd";rename_i T hT;rw [e2];exact q _ (Ch.new hT _)
 | false =>
  have e2:decide (g.vs=[V.str "not",V.int b])=false:=e1;rw [e1,Bool.false_or] at q;walk_at "rd";rename_i T hT;rw [e2];refine iteF ?_;walk_at "rd";rename_i T2 hT2;exact q _ ((Ch.new hT _).trans (Ch.new hT2 _))
theorem av24:AF (defScope (top 24)) ["gates", "why", "it", "feeds", "x"]:=⟨∅⟩
theorem gl24:AG (defScope (top 24)) ["is_one", "is_zero"]:=⟨∅⟩
def notB (al:List Gt) (why:Str) (it x:Nat):Bool:=if why = "inner" then decide (al[x]?=some (.not it)) else if why = "one" then isZ al x && isO al it else if why = "zero" then isO al x && isZ al it else false
def spNotB:Sp:=fun vs H Q _=>∃ (gl fl:Addr) (al:List Gt) (why:Str) (it x:Nat),vs=[.ref gl,.str why,.int (it:Int),.ref fl]/\GA H gl al/\H fl=some (.lst [.int (x:Int)])/\it < al.length/\x < al.length/\∀ H',Ch [] H H'->Q (.bl (notB al why it x)) H'
theorem scNotB:FnScope ["gates", "why", "it", "feeds", "x"] ["gates", "why", "it", "feeds"] (defScope (top 24)):=⟨rfl,rfl,rfl,∅,rfl,∅,∅⟩
theorem wq (F:Fun K "not_holds" "not_holds" (top 24) f fd) (Dis_zero:DefOk P w K mg base CX0 k "is_zero" ["gates", "number"] (spIsG isZ)) (Dis_one:DefOk P w K mg base CX0 k "is_one" ["gates", "number"] (spIsG isO)) (Dare_opposed:DefOk P w K mg base CX0 k "are_opposed" ["gates", "number", "other"] spOpG):FnOk P w K mg base CX0 (k + 1) f fd ["gates", "why", "it", "feeds"] spNotB:=by
 have nd:=scNotB.nd;refine F.ok scNotB (fun vs H Q E h=>by obtain ⟨gl,fl,al,why,it,x,rfl,_⟩:=h; rfl) (fun cdv A outer s0 H vs Q E hr h=>?_)
 obtain ⟨gl,fl,al,why,it,x,rfl,r,hf,li,lx,q⟩:=h;refine ⟨_,(Pr.h (aj (aE (i:=4) nd rfl (av24.l 4 rfl) (ak aC (qv av24 3 rfl) ag (fun _ _=>rfl))) (aj (aw (ay aB (qv av24 1 rfl) aq (nomark _)) (ai (au (bo (cu hr.units) (ak aC (qv av24 0 rfl) (qv av24 4 rfl) (fun _ _=>rfl)) (aD (aa aq (aa (qv av24 2 rfl) ab ae) ax)) (nomark _)))) az) (aj (aw (ay aB (qv av24 1 rfl) aq (nomark _)) (ai (au (bp (av Dis_zero hr (gl24.g 1 rfl) pass0 (aa (qv av24 0 rfl) (aa (qv av24 4 rfl) ab ae) ae) cw) (bc (av Dis_one hr (gl24.g 0 rfl) pass0 (aa (qv av24 0 rfl) (aa (qv av24 2 rfl) ab ae) ae) cv))))) az) (aj (aw (ay aB (qv av24 1 rfl) aq (nomark _)) (ai (au (bp (av Dis_one hr (gl24.g 0 rfl) pass0 (aa (qv av24 0 rfl) (aa (qv av24 4 rfl) ab ae) ae) cv) (bc (av Dis_zero hr (gl24.g 1 rfl) pass0 (aa (qv av24 0 rfl) (aa (qv av24 2 rfl) ab ae) ae) cw))))) az) (ai (au bz))))))),?_⟩
 (try dsimp only [cxOf])
 have c0:=Ch.refl [] H;obtain ⟨g,eg⟩:∃ g,al[x]?=some g:=⟨_,yO lx⟩;obtain ⟨xs,p,hg,at1,hp,lp⟩:=r.at eg;have sc:=Gt.vs_sca g;have sc2:=Gt.vs_sca (.not it);walk_at "rd";refine ite2 (fun ez=>?_) (fun ez=>?_)
 ·have hw:=bf ez
  subst hw;clear ez;have e0:=bI (h:=.not it) eg;rw [show notB al _ it x=decide (al[x]?=some (.not it)) from by simp [notB],e0] at q
  walk_at "rd";rename_i T hT;exact q _ (Ch.new hT _)
 have w0:=bg ez;clear ez;walk_at "rd";refine ite2 (fun ez=>?_) (fun ez=>?_)
 ·have hw:=bf ez
  subst hw;clear ez;have s0:¬ (Str.ofString "one" = Str.ofString "inner"):=∅
  walk_at "rd";rename_i H1 d1;have c1:=c0.trans d1
  (try dsimp only)
  refine ite2 (fun h1=>?_) (fun h1=>?_)
  ·walk_at "rd"
   rename_i H2 d2;have c2:=c1.trans d2;rw [show notB al (Str.ofString "one") it x=isO al it from by simp [notB,s0,h1]] at q
   exact q _ c2
  ·rw [show notB al (Str.ofString "one") it x=false from by simp [notB,s0,h1]] at q
   exact q _ c1
 have w1:=bg ez;clear ez;walk_at "rd";refine ite2 (fun ez=>?_) (fun ez=>?_)
 ·have hw:=bf ez
  subst hw;clear ez;have s0:¬ (Str.ofString "zero" = Str.ofString "inner"):=∅
  have s1:¬ (Str.ofString "zero" = Str.ofString "one"):=∅
  walk_at "rd";rename_i H1 d1;have c1:=c0.trans d1
  (try dsimp only)
  refine ite2 (fun h2=>?_) (fun h2=>?_)
  ·walk_at "rd"
   rename_i H2 d2;have c2:=c1.trans d2;rw [show notB al (Str.ofString "zero") it x=isZ al it from by simp [notB,s0,s1,h2]] at q
   exact q _ c2
  ·rw [show notB al (Str.ofString "zero") it x=false from by simp [notB,s0,s1,h2]] at q
   exact q _ c1
 have w2:=bg ez;clear ez;walk_at "rd";rw [show notB al why it x=false from by simp [notB,w0,w1,w2]] at q
 exact q _ c0
theorem av25:AF (defScope (top 25)) ["gates", "why", "it", "feeds", "x", "y"]:=⟨∅⟩
theorem gl25:AG (defScope (top 25)) ["is_one", "are_opposed", "is_zero"]:=⟨∅⟩
def andB (al:List Gt) (why:Str) (it x y:Nat):Bool:=if why = "first" then decide (it=x) && (isO al y || decide (y=x)) else if why = "second" then decide (it=y) && isO al x else if why = "zero" then isZ al it && (isZ al x || (isZ al y || opsd al x y)) else false
def spAndB:Sp:=fun vs H Q _=>∃ (gl fl:Addr) (al:List Gt) (why:Str) (it x y:Nat),vs=[.ref gl,.str why,.int (it:Int),.ref fl]/\GA H gl al/\H fl=some (.lst [.int (x:Int),.int (y:Int)])/\it < al.length/\x < al.length/\y < al.length/\∀ H',Ch [] H H'->Q (.bl (andB al why it x y)) H'
theorem scAndB:FnScope ["gates", "why", "it", "feeds", "x", "y"] ["gates", "why", "it", "feeds"] (defScope (top 25)):=⟨rfl,rfl,rfl,∅,rfl,∅,∅⟩
theorem wt (F:Fun K "and_holds" "and_holds" (top 25) f fd) (Dis_zero:DefOk P w K mg base CX0 k "is_zero" ["gates", "number"] (spIsG isZ)) (Dis_one:DefOk P w K mg base CX0 k "is_one" ["gates", "number"] (spIsG isO)) (Dare_opposed:DefOk P w K mg base CX0 k "are_opposed" ["gates", "number", "other"] spOpG):FnOk P w K mg base CX0 (k + 1) f fd ["gates", "why", "it", "feeds"] spAndB:=by
 have nd:=scAndB.nd;refine F.ok scAndB (fun vs H Q E h=>by obtain ⟨gl,fl,al,why,it,x,y,rfl,_⟩:=h; rfl) (fun cdv A outer s0 H vs Q E hr h=>?_)
 obtain ⟨gl,fl,al,why,it,x,y,rfl,r,hf,li,lx,ly,q⟩:=h;refine ⟨_,(Pr.h (aj (aE (i:=4) nd rfl (av25.l 4 rfl) (ak aC (qv av25 3 rfl) ag (fun _ _=>rfl))) (aj (aE (i:=5) nd rfl (av25.l 5 rfl) (ak aC (qv av25 3 rfl) ag (fun _ _=>rfl))) (aj (aw (ay aB (qv av25 1 rfl) aq (nomark _)) (ai (au (bp (bo aB (qv av25 2 rfl) (qv av25 4 rfl) (nomark _)) (bc (dm (av Dis_one hr (gl25.g 0 rfl) pass0 (aa (qv av25 0 rfl) (aa (qv av25 5 rfl) ab ae) ae) cv) (bc (bo aB (qv av25 5 rfl) (qv av25 4 rfl) (nomark _)))))))) az) (aj (aw (ay aB (qv av25 1 rfl) aq (nomark _)) (ai (au (bp (bo aB (qv av25 2 rfl) (qv av25 5 rfl) (nomark _)) (bc (av Dis_one hr (gl25.g 0 rfl) pass0 (aa (qv av25 0 rfl) (aa (qv av25 4 rfl) ab ae) ae) cv))))) az) (aj (aw (ay aB (qv av25 1 rfl) aq (nomark _)) (ai (au (bp (av Dis_zero hr (gl25.g 2 rfl) pass0 (aa (qv av25 0 rfl) (aa (qv av25 2 rfl) ab ae) ae) cw) (bc (dm (av Dis_zero hr (gl25.g 2 rfl) pass0 (aa (qv av25 0 rfl) (aa (qv av25 4 rfl) ab ae) ae) cw) (dm (av Dis_zero hr (gl25.g 2 rfl) pass0 (aa (qv av25 0 rfl) (aa (qv av25 5 rfl) ab ae) ae) cw) (bc (av Dare_opposed hr (gl25.g 1 rfl) pass0 (aa (qv av25 0 rfl) (aa (qv av25 4 rfl) (aa (qv av25 5 rfl) ab ae) ae) ae) eM)))))))) az) (ai (au bz)))))))),?_⟩
 (try dsimp only [cxOf])
 have c0:=Ch.refl [] H;walk_at "rd";refine ite2 (fun ez=>?_) (fun ez=>?_)
 ·have hw:=bf ez
  subst hw;clear ez;walk_at "rd"
  (try dsimp only)
  refine ite2 (fun ez=>?_) (fun ez=>?_)
  ·have h3:it=x:=by simp at ez; omega
   clear ez;walk_at "rd";rename_i H1 d1;have c1:=c0.trans d1
   (try dsimp only)
   refine ite2 (fun h4=>?_) (fun h4=>?_)
   ·rw [show andB al (Str.ofString "first") it x y=true from by simp [andB,h3,h4]] at q
    exact q _ c1
   ·walk_at "rd"
    rw [gV];rw [show andB al (Str.ofString "first") it x y=decide (y=x) from by simp [andB,h3,h4]] at q
    exact q _ c1
  ·have h3:¬ it=x:=by simp at ez; omega
   clear ez;rw [show andB al (Str.ofString "first") it x y=false from by simp [andB,h3]] at q
   exact q _ c0
 have w0:=bg ez;clear ez;walk_at "rd";refine ite2 (fun ez=>?_) (fun ez=>?_)
 ·have hw:=bf ez
  subst hw;clear ez;have s0:¬ (Str.ofString "second" = Str.ofString "first"):=∅
  walk_at "rd"
  (try dsimp only)
  refine ite2 (fun ez=>?_) (fun ez=>?_)
  ·have h5:it=y:=by simp at ez; omega
   clear ez;walk_at "rd";rename_i H1 d1;have c1:=c0.trans d1;rw [show andB al (Str.ofString "second") it x y=isO al x from by simp [andB,s0,h5]] at q
   exact q _ c1
  ·have h5:¬ it=y:=by simp at ez; omega
   clear ez;rw [show andB al (Str.ofString "second") it x y=false from by simp [andB,s0,h5]] at q
   exact q _ c0
 have w1:=bg ez;clear ez;walk_at "rd";refine ite2 (fun ez=>?_) (fun ez=>?_)
 ·have hw:=bf ez
  subst hw;clear ez;have s0:¬ (Str.ofString "zero" = Str.ofString "first"):=∅
  have s1:¬ (Str.ofString "zero" = Str.ofString "second"):=∅
  walk_at "rd";rename_i H1 d1;have c1:=c0.trans d1
  (try dsimp only)
  refine ite2 (fun h6=>?_) (fun h6=>?_)
  ·walk_at "rd"
   rename_i H2 d2;have c2:=c1.trans d2
   (try dsimp only)
   refine ite2 (fun h7=>?_) (fun h7=>?_)
   ·rw [show andB al (Str.ofString "zero") it x y=true from by simp [andB,s0,s1,h6,h7]] at q
    exact q _ c2
   ·walk_at "rd"
    rename_i H3 d3;have c3:=c2.trans d3
    (try dsimp only)
    refine ite2 (fun h8=>?_) (fun h8=>?_)
    ·rw [show andB al (Str.ofString "zero") it x y=true from by simp [andB,s0,s1,h6,h7,h8]] at q
     exact q _ c3
    ·walk_at "rd"
     rename_i H4 d4;have c4:=c3.trans d4;rw [show andB al (Str.ofString "zero") it x y=opsd al x y from by simp [andB,s0,s1,h6,h7,h8]] at q
     exact q _ c4
  ·rw [show andB al (Str.ofString "zero") it x y=false from by simp [andB,s0,s1,h6]] at q
   exact q _ c1
 have w2:=bg ez;clear ez;walk_at "rd";rw [show andB al why it x y=false from by simp [andB,w0,w1,w2]] at q
 exact q _ c0
theorem av26:AF (defScope (top 26)) ["gates", "why", "it", "feeds", "x", "y"]:=⟨∅⟩
theorem gl26:AG (defScope (top 26)) ["is_zero", "are_opposed", "is_one"]:=⟨∅⟩
def orB (al:List Gt) (why:Str) (it x y:Nat):Bool:=if why = "first" then decide (it=x) && (isZ al y || decide (y=x)) else if why = "second" then decide (it=y) && isZ al x else if why = "one" then isO al it && (isO al x || (isO al y || opsd al x y)) else false
def spOrB:Sp:=fun vs H Q _=>∃ (gl fl:Addr) (al:List Gt) (why:Str) (it x y:Nat),vs=[.ref gl,.str why,.int (it:Int),.ref fl]/\GA H gl al/\H fl=some (.lst [.int (x:Int),.int (y:Int)])/\it < al.length/\x < al.length/\y < al.length/\∀ H',Ch [] H H'->Q (.bl (orB al why it x y)) H'
theorem scOrB:FnScope ["gates", "why", "it", "feeds", "x", "y"] ["gates", "why", "it", "feeds"] (defScope (top 26)):=⟨rfl,rfl,rfl,∅,rfl,∅,∅⟩
theorem wu (F:Fun K "or_holds" "or_holds" (top 26) f fd) (Dis_zero:DefOk P w K mg base CX0 k "is_zero" ["gates", "number"] (spIsG isZ)) (Dis_one:DefOk P w K mg base CX0 k "is_one" ["gates", "number"] (spIsG isO)) (Dare_opposed:DefOk P w K mg base CX0 k "are_opposed" ["gates", "number", "other"] spOpG):FnOk P w K mg base CX0 (k + 1) f fd ["gates", "why", "it", "feeds"] spOrB:=by
 have nd:=scOrB.nd;refine F.ok scOrB (fun vs H Q E h=>by obtain ⟨gl,fl,al,why,it,x,y,rfl,_⟩:=h; rfl) (fun cdv A outer s0 H vs Q E hr h=>?_)
 obtain ⟨gl,fl,al,why,it,x,y,rfl,r,hf,li,lx,ly,q⟩:=h;refine ⟨_,(Pr.h (aj (aE (i:=4) nd rfl (av26.l 4 rfl) (ak aC (qv av26 3 rfl) ag (fun _ _=>rfl))) (aj (aE (i:=5) nd rfl (av26.l 5 rfl) (ak aC (qv av26 3 rfl) ag (fun _ _=>rfl))) (aj (aw (ay aB (qv av26 1 rfl) aq (nomark _)) (ai (au (bp (bo aB (qv av26 2 rfl) (qv av26 4 rfl) (nomark _)) (bc (dm (av Dis_zero hr (gl26.g 0 rfl) pass0 (aa (qv av26 0 rfl) (aa (qv av26 5 rfl) ab ae) ae) cw) (bc (bo aB (qv av26 5 rfl) (qv av26 4 rfl) (nomark _)))))))) az) (aj (aw (ay aB (qv av26 1 rfl) aq (nomark _)) (ai (au (bp (bo aB (qv av26 2 rfl) (qv av26 5 rfl) (nomark _)) (bc (av Dis_zero hr (gl26.g 0 rfl) pass0 (aa (qv av26 0 rfl) (aa (qv av26 4 rfl) ab ae) ae) cw))))) az) (aj (aw (ay aB (qv av26 1 rfl) aq (nomark _)) (ai (au (bp (av Dis_one hr (gl26.g 2 rfl) pass0 (aa (qv av26 0 rfl) (aa (qv av26 2 rfl) ab ae) ae) cv) (bc (dm (av Dis_one hr (gl26.g 2 rfl) pass0 (aa (qv av26 0 rfl) (aa (qv av26 4 rfl) ab ae) ae) cv) (dm (av Dis_one hr (gl26.g 2 rfl) pass0 (aa (qv av26 0 rfl) (aa (qv av26 5 rfl) ab ae) ae) cv) (bc (av Dare_opposed hr (gl26.g 1 rfl) pass0 (aa (qv av26 0 rfl) (aa (qv av26 4 rfl) (aa (qv av26 5 rfl) ab ae) ae) ae) eM)))))))) az) (ai (au bz)))))))),?_⟩
 (try dsimp only [cxOf])
 have c0:=Ch.refl [] H;walk_at "rd";refine ite2 (fun ez=>?_) (fun ez=>?_)
 ·have hw:=bf ez
  subst hw;clear ez;walk_at "rd"
  (try dsimp only)
  refine ite2 (fun ez=>?_) (fun ez=>?_)
  ·have h9:it=x:=by simp at ez; omega
   clear ez;walk_at "rd";rename_i H1 d1;have c1:=c0.trans d1
   (try dsimp only)
   refine ite2 (fun h10=>?_) (fun h10=>?_)
   ·rw [show orB al (Str.ofString "first") it x y=true from by simp [orB,h9,h10]] at q
    exact q _ c1
   ·walk_at "rd"
    rw [gV];rw [show orB al (Str.ofString "first") it x y=decide (y=x) from by simp [orB,h9,h10]] at q
    exact q _ c1
  ·have h9:¬ it=x:=by simp at ez; omega
   clear ez;rw [show orB al (Str.ofString "first") it x y=false from by simp [orB,h9]] at q
   exact q _ c0
 have w0:=bg ez;clear ez;walk_at "rd";refine ite2 (fun ez=>?_) (fun ez=>?_)
 ·have hw:=bf ez
  subst hw;clear ez;have s0:¬ (Str.ofString "second" = Str.ofString "first"):=∅
  walk_at "rd"
  (try dsimp only)
  refine ite2 (fun ez=>?_) (fun ez=>?_)
  ·have h11:it=y:=by simp at ez; omega
   clear ez;walk_at "rd";rename_i H1 d1;have c1:=c0.trans d1;rw [show orB al (Str.ofString "second") it x y=isZ al x from by simp [orB,s0,h11]] at q
   exact q _ c1
  ·have h11:¬ it=y:=by simp at ez; omega
   clear ez;rw [show orB al (Str.ofString "second") it x y=false from by simp [orB,s0,h11]] at q
   exact q _ c0
 have w1:=bg ez;clear ez;walk_at "rd";refine ite2 (fun ez=>?_) (fun ez=>?_)
 ·have hw:=bf ez
  subst hw;clear ez;have s0:¬ (Str.ofString "one" = Str.ofString "first"):=∅
  have s1:¬ (Str.ofString "one" = Str.ofString "second"):=∅
  walk_at "rd";rename_i H1 d1;have c1:=c0.trans d1
  (try dsimp only)
  refine ite2 (fun h12=>?_) (fun h12=>?_)
  ·walk_at "rd"
   rename_i H2 d2;have c2:=c1.trans d2
   (try dsimp only)
   refine ite2 (fun h13=>?_) (fun h13=>?_)
   ·rw [show orB al (Str.ofString "one") it x y=true from by simp [orB,s0,s1,h12,h13]] at q
    exact q _ c2
   ·walk_at "rd"
    rename_i H3 d3;have c3:=c2.trans d3
    (try dsimp only)
    refine ite2 (fun h14=>?_) (fun h14=>?_)
    ·rw [show orB al (Str.ofString "one") it x y=true from by simp [orB,s0,s1,h12,h13,h14]] at q
     exact q _ c3
    ·walk_at "rd"
     rename_i H4 d4;have c4:=c3.trans d4;rw [show orB al (Str.ofString "one") it x y=opsd al x y from by simp [orB,s0,s1,h12,h13,h14]] at q
     exact q _ c4
  ·rw [show orB al (Str.ofString "one") it x y=false from by simp [orB,s0,s1,h12]] at q
   exact q _ c1
 have w2:=bg ez;clear ez;walk_at "rd";rw [show orB al why it x y=false from by simp [orB,w0,w1,w2]] at q
 exact q _ c0
theorem av27:AF (defScope (top 27)) ["gates", "why", "it", "feeds", "x", "y"]:=⟨∅⟩
theorem gl27:AG (defScope (top 27)) ["is_zero", "are_opposed", "is_one"]:=⟨∅⟩
def xorB (al:List Gt) (why:Str) (it x y:Nat):Bool:=if why = "first" then decide (it=x) && isZ al y else if why = "second" then decide (it=y) && isZ al x else if why = "zero" then isZ al it && decide (x=y) else if why = "one" then isO al it && opsd al x y else if why = "not" then (isO al y && opsd al it x) || (isO al x && opsd al it y) else false
def spXorB:Sp:=fun vs H Q _=>∃ (gl fl:Addr) (al:List Gt) (why:Str) (it x y:Nat),vs=[.ref gl,.str why,.int (it:Int),.ref fl]/\GA H gl al/\H fl=some (.lst [.int (x:Int),.int (y:Int)])/\it < al.length/\x < al.length/\y < al.length/\∀ H',Ch [] H H'->Q (.bl (xorB al why it x y)) H'
theorem scXorB:FnScope ["gates", "why", "it", "feeds", "x", "y"] ["gates", "why", "it", "feeds"] (defScope (top 27)):=⟨rfl,rfl,rfl,∅,rfl,∅,∅⟩
theorem wx (F:Fun K "xor_holds" "xor_holds" (top 27) f fd) (Dis_zero:DefOk P w K mg base CX0 k "is_zero" ["gates", "number"] (spIsG isZ)) (Dis_one:DefOk P w K mg base CX0 k "is_one" ["gates", "number"] (spIsG isO)) (Dare_opposed:DefOk P w K mg base CX0 k "are_opposed" ["gates", "number", "other"] spOpG):FnOk P w K mg base CX0 (k + 1) f fd ["gates", "why", "it", "feeds"] spXorB:=by
 have nd:=scXorB.nd;refine F.ok scXorB (fun vs H Q E h=>by obtain ⟨gl,fl,al,why,it,x,y,rfl,_⟩:=h; rfl) (fun cdv A outer s0 H vs Q E hr h=>?_)
 obtain ⟨gl,fl,al,why,it,x,y,rfl,r,hf,li,lx,ly,q⟩:=h;refine ⟨_,(Pr.h (aj (aE (i:=4) nd rfl (av27.l 4 rfl) (ak aC (qv av27 3 rfl) ag (fun _ _=>rfl))) (aj (aE (i:=5) nd rfl (av27.l 5 rfl) (ak aC (qv av27 3 rfl) ag (fun _ _=>rfl))) (aj (aw (ay aB (qv av27 1 rfl) aq (nomark _)) (ai (au (bp (bo aB (qv av27 2 rfl) (qv av27 4 rfl) (nomark _)) (bc (av Dis_zero hr (gl27.g 0 rfl) pass0 (aa (qv av27 0 rfl) (aa (qv av27 5 rfl) ab ae) ae) cw))))) az) (aj (aw (ay aB (qv av27 1 rfl) aq (nomark _)) (ai (au (bp (bo aB (qv av27 2 rfl) (qv av27 5 rfl) (nomark _)) (bc (av Dis_zero hr (gl27.g 0 rfl) pass0 (aa (qv av27 0 rfl) (aa (qv av27 4 rfl) ab ae) ae) cw))))) az) (aj (aw (ay aB (qv av27 1 rfl) aq (nomark _)) (ai (au (bp (av Dis_zero hr (gl27.g 0 rfl) pass0 (aa (qv av27 0 rfl) (aa (qv av27 2 rfl) ab ae) ae) cw) (bc (bo aB (qv av27 4 rfl) (qv av27 5 rfl) (nomark _)))))) az) (aj (aw (ay aB (qv av27 1 rfl) aq (nomark _)) (ai (au (bp (av Dis_one hr (gl27.g 2 rfl) pass0 (aa (qv av27 0 rfl) (aa (qv av27 2 rfl) ab ae) ae) cv) (bc (av Dare_opposed hr (gl27.g 1 rfl) pass0 (aa (qv av27 0 rfl) (aa (qv av27 4 rfl) (aa (qv av27 5 rfl) ab ae) ae) ae) eM))))) az) (aj (aw (br (bZ (ay aB (qv av27 1 rfl) aq (nomark _)) (bZ (aU (av Dis_one hr (gl27.g 2 rfl) pass0 (aa (qv av27 0 rfl) (aa (qv av27 5 rfl) ab ae) ae) cv)) (cI (aU (av Dare_opposed hr (gl27.g 1 rfl) pass0 (aa (qv av27 0 rfl) (aa (qv av27 2 rfl) (aa (qv av27 4 rfl) ab ae) ae) ae) eM)))))) (ai (au bz)) az) (ai (au (bp (bo aB (qv av27 1 rfl) aq (nomark _)) (bp (av Dis_one hr (gl27.g 2 rfl) pass0 (aa (qv av27 0 rfl) (aa (qv av27 4 rfl) ab ae) ae) cv) (bc (av Dare_opposed hr (gl27.g 1 rfl) pass0 (aa (qv av27 0 rfl) (aa (qv av27 2 rfl) (aa (qv av27 5 rfl) ab ae) ae) ae) eM)))))))))))))),?_⟩
 (try dsimp only [cxOf])
 have c0:=Ch.refl [] H;walk_at "rd";refine ite2 (fun ez=>?_) (fun ez=>?_)
 ·have hw:=bf ez
  subst hw;clear ez;walk_at "rd"
  (try dsimp only)
  refine ite2 (fun ez=>?_) (fun ez=>?_)
  ·have h15:it=x:=by simp at ez; omega
   clear ez;walk_at "rd";rename_i H1 d1;have c1:=c0.trans d1;rw [show xorB al (Str.ofString "first") it x y=isZ al y from by simp [xorB,h15]] at q
   exact q _ c1
  ·have h15:¬ it=x:=by simp at ez; omega
   clear ez;rw [show xorB al (Str.ofString "first") it x y=false from by simp [xorB,h15]] at q
   exact q _ c0
 have w0:=bg ez;clear ez;walk_at "rd";refine ite2 (fun ez=>?_) (fun ez=>?_)
 ·have hw:=bf ez
  subst hw;clear ez;have s0:¬ (Str.ofString "second" = Str.ofString "first"):=∅
  walk_at "rd"
  (try dsimp only)
  refine ite2 (fun ez=>?_) (fun ez=>?_)
  ·have h16:it=y:=by simp at ez; omega
   clear ez;walk_at "rd";rename_i H1 d1;have c1:=c0.trans d1;rw [show xorB al (Str.ofString "second") it x y=isZ al x from by simp [xorB,s0,h16]] at q
   exact q _ c1
  ·have h16:¬ it=y:=by simp at ez; omega
   clear ez;rw [show xorB al (Str.ofString "second") it x y=false from by simp [xorB,s0,h16]] at q
   exact q _ c0
 have w1:=bg ez;clear ez;walk_at "rd";refine ite2 (fun ez=>?_) (fun ez=>?_)
 ·have hw:=bf ez
  subst hw;clear ez;have s0:¬ (Str.ofString "zero" = Str.ofString "first"):=∅
  have s1:¬ (Str.ofString "zero" = Str.ofString "second"):=∅
  walk_at "rd";rename_i H1 d1;have c1:=c0.trans d1
  (try dsimp only)
  refine ite2 (fun h17=>?_) (fun h17=>?_)
  ·walk_at "rd"
   rw [gV];rw [show xorB al (Str.ofString "zero") it x y=decide (x=y) from by simp [xorB,s0,s1,h17]] at q
   exact q _ c1
  ·rw [show xorB al (Str.ofString "zero") it x y=false from by simp [xorB,s0,s1,h17]] at q
   exact q _ c1
 have w2:=bg ez;clear ez;walk_at "rd";refine ite2 (fun ez=>?_) (fun ez=>?_)
 ·have hw:=bf ez
  subst hw;clear ez;have s0:¬ (Str.ofString "one" = Str.ofString "first"):=∅
  have s1:¬ (Str.ofString "one" = Str.ofString "second"):=∅
  have s2:¬ (Str.ofString "one" = Str.ofString "zero"):=∅
  walk_at "rd";rename_i H1 d1;have c1:=c0.trans d1
  (try dsimp only)
  refine ite2 (fun h18=>?_) (fun h18=>?_)
  ·walk_at "rd"
   rename_i H2 d2;have c2:=c1.trans d2;rw [show xorB al (Str.ofString "one") it x y=opsd al x y from by simp [xorB,s0,s1,s2,h18]] at q
   exact q _ c2
  ·rw [show xorB al (Str.ofString "one") it x y=false from by simp [xorB,s0,s1,s2,h18]] at q
   exact q _ c1
 have w3:=bg ez;clear ez
 by_cases hn:why=Str.ofString "not"
 ·subst hn
  rw [show xorB al (Str.ofString "not") it x y=((isO al y && opsd al it x) || (isO al x && opsd al it y)) from by simp [xorB,w0,w1,w2,w3]] at q
  walk_at "rd";rename_i H1 d1;have c1:=c0.trans d1
  (try dsimp only)
  refine ite2 (fun h1=>?_) (fun h1=>?_)
  ·walk_at "rd"
   rename_i H2 d2;have c2:=c1.trans d2
   (try dsimp only)
   refine ite2 (fun h2=>?_) (fun h2=>?_)
   ·walk_at "rd"
    rw [show ((isO al y && opsd al it x) || (isO al x && opsd al it y))=true from by simp [h1,h2]] at q
    exact q _ c2
   ·walk_at "rd"
    rename_i H3 d3;have c3:=c2.trans d3
    (try dsimp only)
    refine ite2 (fun t=>?_) (fun t=>?_)
    ·walk_at "rd"
     rename_i H4 d4;have c4:=c3.trans d4
     (try dsimp only)
     rw [show ((isO al y && opsd al it x) || (isO al x && opsd al it y))=opsd al it y from by simp [h1,h2,t]] at q
     exact q _ c4
    ·rw [show ((isO al y && opsd al it x) || (isO al x && opsd al it y))=false from by simp [h1,h2,t]] at q
     exact q _ c3
  ·refine iteF ?_
   walk_at "rd";rename_i H2 d2;have c2:=c1.trans d2
   (try dsimp only)
   refine ite2 (fun t=>?_) (fun t=>?_)
   ·walk_at "rd"
    rename_i H3 d3;have c3:=c2.trans d3
    (try dsimp only)
    rw [show ((isO al y && opsd al it x) || (isO al x && opsd al it y))=opsd al it y from by simp [h1,t]] at q
    exact q _ c3
   ·rw [show ((isO al y && opsd al it x) || (isO al x && opsd al it y))=false from by simp [h1,t]] at q
    exact q _ c2
 have wn:decide (V.str why=V.str "not")=false:=zv fun z=>hn (V.str.inj z)
 walk_at "rd";rw [wn];refine iteF ?_;refine iteF ?_;walk_at "rd";rw [wn];refine iteF ?_;rw [show xorB al why it x y=false from by simp [xorB,hn,w0,w1,w2,w3]] at q
 exact q _ c0
theorem av28:AF (defScope (top 28)) ["gates", "why", "it", "feeds", "x", "y", "z"]:=⟨∅⟩
theorem gl28:AG (defScope (top 28)) ["is_one", "is_zero", "are_opposed"]:=⟨∅⟩
def pickB (al:List Gt) (why:Str) (it x y z:Nat):Bool:=if why = "second" then decide (it=y) && (isO al x || decide (y=z)) else if why = "third" then decide (it=z) && isZ al x else if why = "first" then decide (it=x) && (isO al y && isZ al z) else if why = "not" then opsd al it x && (isZ al y && isO al z) else false
def spPickB:Sp:=fun vs H Q _=>∃ (gl fl:Addr) (al:List Gt) (why:Str) (it x y z:Nat),vs=[.ref gl,.str why,.int (it:Int),.ref fl]/\GA H gl al/\H fl=some (.lst [.int (x:Int),.int (y:Int),.int (z:Int)])/\it < al.length/\x < al.length/\y < al.length/\z < al.length/\∀ H',Ch [] H H'->Q (.bl (pickB al why it x y z)) H'
theorem scPickB:FnScope ["gates", "why", "it", "feeds", "x", "y", "z"] ["gates", "why", "it", "feeds"] (defScope (top 28)):=⟨rfl,rfl,rfl,∅,rfl,∅,∅⟩
theorem wz (F:Fun K "pick_holds" "pick_holds" (top 28) f fd) (Dis_zero:DefOk P w K mg base CX0 k "is_zero" ["gates", "number"] (spIsG isZ)) (Dis_one:DefOk P w K mg base CX0 k "is_one" ["gates", "number"] (spIsG isO)) (Dare_opposed:DefOk P w K mg base CX0 k "are_opposed" ["gates", "number", "other"] spOpG):FnOk P w K mg base CX0 (k + 1) f fd ["gates", "why", "it", "feeds"] spPickB:=by
 have nd:=scPickB.nd;refine F.ok scPickB (fun vs H Q E h=>by obtain ⟨gl,fl,al,why,it,x,y,z,rfl,_⟩:=h; rfl) (fun cdv A outer s0 H vs Q E hr h=>?_)
 obtain ⟨gl,fl,al,why,it,x,y,z,rfl,r,hf,li,lx,ly,lz,q⟩:=h;refine ⟨_,(Pr.h (aj (aE (i:=4) nd rfl (av28.l 4 rfl) (ak aC (qv av28 3 rfl) ag (fun _ _=>rfl))) (aj (aE (i:=5) nd rfl (av28.l 5 rfl) (ak aC (qv av28 3 rfl) ag (fun _ _=>rfl))) (aj (aE (i:=6) nd rfl (av28.l 6 rfl) (ak aC (qv av28 3 rfl) ag (fun _ _=>rfl))) (aj (aw (ay aB (qv av28 1 rfl) aq (nomark _)) (ai (au (bp (bo aB (qv av28 2 rfl) (qv av28 5 rfl) (nomark _)) (bc (dm (av Dis_one hr (gl28.g 0 rfl) pass0 (aa (qv av28 0 rfl) (aa (qv av28 4 rfl) ab ae) ae) cv) (bc (bo aB (qv av28 5 rfl) (qv av28 6 rfl) (nomark _)))))))) az) (aj (aw (ay aB (qv av28 1 rfl) aq (nomark _)) (ai (au (bp (bo aB (qv av28 2 rfl) (qv av28 6 rfl) (nomark _)) (bc (av Dis_zero hr (gl28.g 1 rfl) pass0 (aa (qv av28 0 rfl) (aa (qv av28 4 rfl) ab ae) ae) cw))))) az) (aj (aw (ay aB (qv av28 1 rfl) aq (nomark _)) (ai (au (bp (bo aB (qv av28 2 rfl) (qv av28 4 rfl) (nomark _)) (bp (av Dis_one hr (gl28.g 0 rfl) pass0 (aa (qv av28 0 rfl) (aa (qv av28 5 rfl) ab ae) ae) cv) (bc (av Dis_zero hr (gl28.g 1 rfl) pass0 (aa (qv av28 0 rfl) (aa (qv av28 6 rfl) ab ae) ae) cw)))))) az) (aj (aw (ay aB (qv av28 1 rfl) aq (nomark _)) (ai (au (bp (av Dare_opposed hr (gl28.g 2 rfl) pass0 (aa (qv av28 0 rfl) (aa (qv av28 2 rfl) (aa (qv av28 4 rfl) ab ae) ae) ae) eM) (bp (av Dis_zero hr (gl28.g 1 rfl) pass0 (aa (qv av28 0 rfl) (aa (qv av28 5 rfl) ab ae) ae) cw) (bc (av Dis_one hr (gl28.g 0 rfl) pass0 (aa (qv av28 0 rfl) (aa (qv av28 6 rfl) ab ae) ae) cv)))))) az) (ai (au bz)))))))))),?_⟩
 (try dsimp only [cxOf])
 have c0:=Ch.refl [] H;walk_at "rd";refine ite2 (fun ez=>?_) (fun ez=>?_)
 ·have hw:=bf ez
  subst hw;clear ez;walk_at "rd"
  (try dsimp only)
  refine ite2 (fun ez=>?_) (fun ez=>?_)
  ·have h19:it=y:=by simp at ez; omega
   clear ez;walk_at "rd";rename_i H1 d1;have c1:=c0.trans d1
   (try dsimp only)
   refine ite2 (fun h20=>?_) (fun h20=>?_)
   ·rw [show pickB al (Str.ofString "second") it x y z=true from by simp [pickB,h19,h20]] at q
    exact q _ c1
   ·walk_at "rd"
    rw [gV];rw [show pickB al (Str.ofString "second") it x y z=decide (y=z) from by simp [pickB,h19,h20]] at q
    exact q _ c1
  ·have h19:¬ it=y:=by simp at ez; omega
   clear ez;rw [show pickB al (Str.ofString "second") it x y z=false from by simp [pickB,h19]] at q
   exact q _ c0
 have w0:=bg ez;clear ez;walk_at "rd";refine ite2 (fun ez=>?_) (fun ez=>?_)
 ·have hw:=bf ez
  subst hw;clear ez;have s0:¬ (Str.ofString "third" = Str.ofString "second"):=∅
  walk_at "rd"
  (try dsimp only)
  refine ite2 (fun ez=>?_) (fun ez=>?_)
  ·have h21:it=z:=by simp at ez; omega
   clear ez;walk_at "rd";rename_i H1 d1;have c1:=c0.trans d1;rw [show pickB al (Str.ofString "third") it x y z=isZ al x from by simp [pickB,s0,h21]] at q
   exact q _ c1
  ·have h21:¬ it=z:=by simp at ez; omega
   clear ez;rw [show pickB al (Str.ofString "third") it x y z=false from by simp [pickB,s0,h21]] at q
   exact q _ c0
 have w1:=bg ez;clear ez;walk_at "rd";refine ite2 (fun ez=>?_) (fun ez=>?_)
 ·have hw:=bf ez
  subst hw;clear ez;have s0:¬ (Str.ofString "first" = Str.ofString "second"):=∅
  have s1:¬ (Str.ofString "first" = Str.ofString "third"):=∅
  walk_at "rd"
  (try dsimp only)
  refine ite2 (fun ez=>?_) (fun ez=>?_)
  ·have h22:it=x:=by simp at ez; omega
   clear ez;walk_at "rd";rename_i H1 d1;have c1:=c0.trans d1
   (try dsimp only)
   refine ite2 (fun h23=>?_) (fun h23=>?_)
   ·walk_at "rd"
    rename_i H2 d2;have c2:=c1.trans d2;rw [show pickB al (Str.ofString "first") it x y z=isZ al z from by simp [pickB,s0,s1,h22,h23]] at q
    exact q _ c2
   ·rw [show pickB al (Str.ofString "first") it x y z=false from by simp [pickB,s0,s1,h22,h23]] at q
    exact q _ c1
  ·have h22:¬ it=x:=by simp at ez; omega
   clear ez;rw [show pickB al (Str.ofString "first") it x y z=false from by simp [pickB,s0,s1,h22]] at q
   exact q _ c0
 have w2:=bg ez;clear ez;walk_at "rd";refine ite2 (fun ez=>?_) (fun ez=>?_)
 ·have hw:=bf ez
  subst hw;clear ez;have s0:¬ (Str.ofString "not" = Str.ofString "second"):=∅
  have s1:¬ (Str.ofString "not" = Str.ofString "third"):=∅
  have s2:¬ (Str.ofString "not" = Str.ofString "first"):=∅
  walk_at "rd";rename_i H1 d1;have c1:=c0.trans d1
  (try dsimp only)
  refine ite2 (fun h24=>?_) (fun h24=>?_)
  ·walk_at "rd"
   rename_i H2 d2;have c2:=c1.trans d2
   (try dsimp only)
   refine ite2 (fun h25=>?_) (fun h25=>?_)
   ·walk_at "rd"
    rename_i H3 d3;have c3:=c2.trans d3;rw [show pickB al (Str.ofString "not") it x y z=isO al z from by simp [pickB,s0,s1,s2,h24,h25]] at q
    exact q _ c3
   ·rw [show pickB al (Str.ofString "not") it x y z=false from by simp [pickB,s0,s1,s2,h24,h25]] at q
    exact q _ c2
  ·rw [show pickB al (Str.ofString "not") it x y z=false from by simp [pickB,s0,s1,s2,h24]] at q
   exact q _ c1
 have w3:=bg ez;clear ez;walk_at "rd";rw [show pickB al why it x y z=false from by simp [pickB,w0,w1,w2,w3]] at q
 exact q _ c0
end
end

section
local macro_rules | `(tactic| walk_at "user")=>`(tactic| first
 | (apply GA.ch; (focus with_reducible assumption); (focus walk_at "ch"))
 | exact Gt.vs_sca _)
def Gt.two:Gt->Bool
 | .and _ _=>true
 | .or _ _=>true
 | .xor _ _=>true
 | _=>false
def Gt.trn (ρ:Nat->Nat):Gt->Gt
 | .and a b=>.and (ρ b) (ρ a)
 | .or a b=>.or (ρ b) (ρ a)
 | .xor a b=>.xor (ρ b) (ρ a)
 | g=>g
def ruB (al:List Gt) (ρ:Nat->Nat) (it:Nat) (why:Str):Gt->Bool
 | .not a=>notB al why it (ρ a)
 | .and a b=>andB al why it (ρ a) (ρ b)
 | .or a b=>orB al why it (ρ a) (ρ b)
 | .xor a b=>xorB al why it (ρ a) (ρ b)
 | .pick a b c=>pickB al why it (ρ a) (ρ b) (ρ c)
 | _=>false
def phB (al:List Gt) (ρ:Nat->Nat) (it:Nat) (why:Str):Gt->Bool
 | .keep f a=>decide (why = "keep") && decide (al[it]?=some (.keep f (ρ a)))
 | g=>if why = "same" then decide (al[it]?=some (g.ren ρ)) else if why = "turned" /\ g.two=true then decide (al[it]?=some (g.trn ρ)) else ruB al ρ it why g
theorem dB (hk:g.isKeep=false):phB al ρ it "same" g=decide (al[it]?=some (g.ren ρ)):=by
 cases g <;> first | (cases hk; done) | simp [phB]
theorem fC (h2:g.two=true):phB al ρ it "turned" g=decide (al[it]?=some (g.trn ρ)):=by
 have s:¬ (Str.ofString "turned" = Str.ofString "same"):=∅
 cases g <;> first | (cases h2; done) | simp [phB,s,Gt.two]
theorem bj (hk:g.isKeep=false) (h0:¬ why = "same") (h1:¬ (why = "turned" /\ g.two=true)):phB al ρ it why g=ruB al ρ it why g:=by
 cases g <;> first | (cases hk; done) | (simp only [phB]; rw [yM h0,yM h1])
def RU:List Str:=["not", "and", "or", "xor", "pick"]
def spRu (wo:Str):Sp:=fun vs H Q E=>(wo = "not" /\ spNotB vs H Q E)\/(wo = "and" /\ spAndB vs H Q E)\/(wo = "or" /\ spOrB vs H Q E)\/(wo = "xor" /\ spXorB vs H Q E)\/(wo = "pick" /\ spPickB vs H Q E)
section
variable {P:Program}{w:World}{K:PySem.W.Frag}{mg:Str->Option Value}{base:Heap}{f:Addr}{fd:FuncData}{k:Nat}
theorem mJ:Nd "RULES" := ∅
theorem av30:AF (defScope (top 30)) ["gates", "gate", "it", "why", "feeds", "word"]:=⟨∅⟩
theorem gl30:AG (defScope (top 30)) ["tuple", "RULES"]:=⟨∅⟩
def spPH:Sp:=fun vs H Q _=>∃ (gl p fl:Addr) (al:List Gt) (g:Gt) (it:Nat) (why:Str) (ρ:Nat->Nat),vs=[.ref gl,.ref p,.int (it:Int),.str why,.ref fl]/\GA H gl al/\H p=some (.tup g.vs)/\g≠.inp/\H fl=some (.lst (g.feeds.map fun a=>V.int ((ρ a:Nat):Int)))/\it < al.length/\(∀ a∈g.feeds,ρ a < al.length)/\∀ H',Ch [] H H'->Q (.bl (phB al ρ it why g)) H'
theorem scPH:FnScope ["gates", "gate", "it", "why", "feeds", "word"] ["gates", "gate", "it", "why", "feeds"] (defScope (top 30)):=⟨rfl,rfl,rfl,∅,rfl,∅,∅⟩
theorem wA {ra:Addr}{rkv:List (Key × V)}{spt:Addr->Sp}{At:Addr->Prop} (F:Fun K "pair_holds" "pair_holds" (top 30) f fd) (T_RULES:TabOk P w K mg base CX0 k ["gates", "why", "it", "feeds"] spt At) (m_RULES:mg "RULES" = some (.ref ra)) (hKD:KD P w K ra rkv)
  (hT:∀ wo∈RU,∃ f,valV rkv (.inr wo)=some (.ref f)/\At f/\spt f=spRu wo) (hN:∀ wo,wo ∉ RU->valV rkv (.inr wo)=none) (z_tuple:mg "tuple" = none):FnOk P w K mg base CX0 (k + 1) f fd ["gates", "gate", "it", "why", "feeds"] spPH:=by
 have nd:=scPH.nd;refine F.ok scPH (fun vs H Q E h=>by obtain ⟨gl,p,fl,al,g,it,why,ρ,rfl,_⟩:=h; rfl) (fun cdv A outer s0 H vs Q E hr h=>?_)
 obtain ⟨gl,p,fl,al,g,it,why,ρ,rfl,r,hp,ni,hf,li,lf,q⟩:=h;refine ⟨_,(Pr.h (aj (aE (i:=5) nd rfl (av30.l 5 rfl) (ak aH (qv av30 1 rfl) ag (fun _ _=>rfl))) (aj (aw (ay aB (qv av30 5 rfl) aq (nomark _)) (ai (au (bp (bo aB (qv av30 3 rfl) aq (nomark _)) (bc (bo (cu hr.units) (ak aC (qv av30 0 rfl) (qv av30 2 rfl) (fun _ _=>rfl)) (aD (aa aq (aa (ak aH (qv av30 1 rfl) ag (fun _ _=>rfl)) (aa (ak aC (qv av30 4 rfl) ag (fun _ _=>rfl)) ab aK) aK) ax)) (nomark _)))))) az) (aj (aw (ay aB (qv av30 3 rfl) aq (nomark _)) (ai (au (bo (cu hr.units) (ak aC (qv av30 0 rfl) (qv av30 2 rfl) (fun _ _=>rfl)) (bQ dP (gl30.g 0 rfl) z_tuple dt (aa (ar dQ (bD (aa (qv av30 5 rfl) ab ae)) (qv av30 4 rfl)) ab bh) du dz) (nomark _)))) az) (aj (aw (br (bZ (ay aB (qv av30 3 rfl) aq (nomark _)) (cI (ay ig (qv av30 5 rfl) (aD (aa aq (aa aq (aa aq ab ax) ax) ax)) rfl)))) (ai (au (bo (cu hr.units) (ak aC (qv av30 0 rfl) (qv av30 2 rfl) (fun _ _=>rfl)) (aD (aa (qv av30 5 rfl) (aa (ak aC (qv av30 4 rfl) ag (fun _ _=>rfl)) (aa (ak aC (qv av30 4 rfl) ag (fun _ _=>rfl)) ab aK) aK) ae)) (nomark _)))) az) (ai (au (bp (bo kH (qv av30 5 rfl) (eX (v:=.ref _) (gl30.g 1 rfl) m_RULES rfl mJ) rfl) (bc (um T_RULES hr pass0 (iu (eX (v:=.ref _) (gl30.g 1 rfl) m_RULES rfl mJ) (qv av30 5 rfl) (fun _ _=>rfl)) (aa (qv av30 0 rfl) (aa (qv av30 3 rfl) (aa (qv av30 2 rfl) (aa (qv av30 4 rfl) ab ae) ae) ae) ae))))))))))),?_⟩
 (try dsimp only [cxOf])
 obtain ⟨t,et⟩:∃ t,al[it]?=some t:=⟨_,yO li⟩;obtain ⟨xs,pt,hg,at1,hpt,lx⟩:=r.at et;have sct:=Gt.vs_sca t;cases g with
 | inp=>exact absurd rfl ni
 | keep ff a =>
  have hp:H p=some (.tup [.str "keep",.int ff,.int a]):=hp;have hf:H fl=some (.lst [.int ((ρ a:Nat):Int)]):=hf;have q:∀ H',Ch [] H H'->Q (.bl (decide (why = "keep") && decide (al[it]?=some (.keep ff (ρ a))))) H':=q;have sc2:=Gt.vs_sca (.keep ff (ρ a));rw [bI et] at q;walk_at "rd";refine ite2 (fun ez=>?_) (fun ez=>?_)
  ·have hw:=bf ez
   subst hw;rw [y8 rfl,Bool.true_and] at q;walk_at "rd";rename_i T hT;exact q _ (Ch.new hT _)
  ·have hw:=bg ez
   rw [zv hw,AL] at q;walk_at "rd";exact q _ (Ch.refl _ _)
 | zero =>
  have hp:H p=some (.tup [.str "zero"]):=hp;have hf:H fl=some (.lst []):=hf;have ev:=hN "zero" ∅
  have e3:inV (V.str "zero") [.str "and",.str "or",.str "xor"]=false:=∅
  walk_at "rd";refine ite2 (fun ez=>?_) (fun ez=>?_)
  ·have hw:=bf ez
   subst hw;rw [dB rfl,bI et] at q;have sc2:=Gt.vs_sca (Gt.zero);walk_at "rd";rename_i e1 h1 e2 h2 e4 h4;exact q _ (((Ch.new h1 _).trans (Ch.new h2 _)).trans (Ch.new h4 _))
  have w0:=bg ez;clear ez;walk_at "rd";refine ite2 (fun ez=>?_) (fun ez=>?_)
  ·have hw:=bf ez
   subst hw;rw [bj rfl w0 (fun z=>by cases z.2)] at q
   walk_at "rd";rename_i e1 h1;rw [ev];refine iteF ?_;exact q _ (Ch.new h1 _)
  ·have w1:=bg ez
   clear ez;refine iteF ?_;rw [bj rfl w0 (fun z=>w1 z.1)] at q
   walk_at "rd";rw [ev];refine iteF ?_;exact q _ (Ch.refl _ _)
 | one =>
  have hp:H p=some (.tup [.str "one"]):=hp;have hf:H fl=some (.lst []):=hf;have ev:=hN "one" ∅
  have e3:inV (V.str "one") [.str "and",.str "or",.str "xor"]=false:=∅
  walk_at "rd";refine ite2 (fun ez=>?_) (fun ez=>?_)
  ·have hw:=bf ez
   subst hw;rw [dB rfl,bI et] at q;have sc2:=Gt.vs_sca (Gt.one);walk_at "rd";rename_i e1 h1 e2 h2 e4 h4;exact q _ (((Ch.new h1 _).trans (Ch.new h2 _)).trans (Ch.new h4 _))
  have w0:=bg ez;clear ez;walk_at "rd";refine ite2 (fun ez=>?_) (fun ez=>?_)
  ·have hw:=bf ez
   subst hw;rw [bj rfl w0 (fun z=>by cases z.2)] at q
   walk_at "rd";rename_i e1 h1;rw [ev];refine iteF ?_;exact q _ (Ch.new h1 _)
  ·have w1:=bg ez
   clear ez;refine iteF ?_;rw [bj rfl w0 (fun z=>w1 z.1)] at q
   walk_at "rd";rw [ev];refine iteF ?_;exact q _ (Ch.refl _ _)
 | not a =>
  have hp:H p=some (.tup [.str "not",.int a]):=hp;have hf:H fl=some (.lst [.int ((ρ a:Nat):Int)]):=hf;obtain ⟨tf,ev,at_,esp⟩:=hT "not" ∅
  have la:=lf a (by simp [Gt.feeds])
  have e3:inV (V.str "not") [.str "and",.str "or",.str "xor"]=false:=∅
  walk_at "rd";refine ite2 (fun ez=>?_) (fun ez=>?_)
  ·have hw:=bf ez
   subst hw;rw [dB rfl,bI et] at q;have sc2:=Gt.vs_sca (Gt.not (ρ a));walk_at "rd";rename_i e1 h1 e2 h2 e4 h4;exact q _ (((Ch.new h1 _).trans (Ch.new h2 _)).trans (Ch.new h4 _))
  have w0:=bg ez;clear ez;walk_at "rd";refine ite2 (fun ez=>?_) (fun ez=>?_)
  ·have hw:=bf ez
   subst hw;rw [bj rfl w0 (fun z=>by cases z.2)] at q
   walk_at "rd";rename_i e1 h1;rw [ev];refine iteT ?_;walk_at "rd";rw [esp];exact .inl ⟨rfl,gl,fl,al,_,it,ρ a,rfl,GA.ch r (Ch.new h1 _),Ch.get (W:=[]) (Ch.new h1 _) hf ze,li,la,fun H' c=>q _ ((Ch.new h1 _).trans c)⟩
  ·have w1:=bg ez
   clear ez;refine iteF ?_;rw [bj rfl w0 (fun z=>w1 z.1)] at q
   walk_at "rd";rw [ev];refine iteT ?_;walk_at "rd";rw [esp];exact .inl ⟨rfl,gl,fl,al,_,it,ρ a,rfl,r,hf,li,la,q⟩
 | and a b =>
  have hp:H p=some (.tup [.str "and",.int a,.int b]):=hp;have hf:H fl=some (.lst [.int ((ρ a:Nat):Int),.int ((ρ b:Nat):Int)]):=hf;obtain ⟨tf,ev,at_,esp⟩:=hT "and" ∅
  have la:=lf a (by simp [Gt.feeds])
  have lb:=lf b (by simp [Gt.feeds])
  have e3:inV (V.str "and") [.str "and",.str "or",.str "xor"]=true:=∅
  walk_at "rd";refine ite2 (fun ez=>?_) (fun ez=>?_)
  ·have hw:=bf ez
   subst hw;rw [dB rfl,bI et] at q;have sc2:=Gt.vs_sca (Gt.and (ρ a) (ρ b));walk_at "rd";rename_i e1 h1 e2 h2 e4 h4;exact q _ (((Ch.new h1 _).trans (Ch.new h2 _)).trans (Ch.new h4 _))
  have w0:=bg ez;clear ez;walk_at "rd";refine ite2 (fun ez=>?_) (fun ez=>?_)
  ·have hw:=bf ez
   subst hw;rw [fC rfl,bI et] at q;have sc3:ScaL [V.str "and",V.int ((ρ b:Nat):Int),V.int ((ρ a:Nat):Int)]:=Gt.vs_sca (.and (ρ b) (ρ a));walk_at "rd";rename_i e1 h1 e2 h2;exact q _ ((Ch.new h1 _).trans (Ch.new h2 _))
  ·have w1:=bg ez
   clear ez;refine iteF ?_;rw [bj rfl w0 (fun z=>w1 z.1)] at q
   walk_at "rd";rw [ev];refine iteT ?_;walk_at "rd";rw [esp];exact .inr (.inl ⟨rfl,gl,fl,al,_,it,ρ a,ρ b,rfl,r,hf,li,la,lb,q⟩)
 | or a b =>
  have hp:H p=some (.tup [.str "or",.int a,.int b]):=hp;have hf:H fl=some (.lst [.int ((ρ a:Nat):Int),.int ((ρ b:Nat):Int)]):=hf;obtain ⟨tf,ev,at_,esp⟩:=hT "or" ∅
  have la:=lf a (by simp [Gt.feeds])
  have lb:=lf b (by simp [Gt.feeds])
  have e3:inV (V.str "or") [.str "and",.str "or",.str "xor"]=true:=∅
  walk_at "rd";refine ite2 (fun ez=>?_) (fun ez=>?_)
  ·have hw:=bf ez
   subst hw;rw [dB rfl,bI et] at q;have sc2:=Gt.vs_sca (Gt.or (ρ a) (ρ b));walk_at "rd";rename_i e1 h1 e2 h2 e4 h4;exact q _ (((Ch.new h1 _).trans (Ch.new h2 _)).trans (Ch.new h4 _))
  have w0:=bg ez;clear ez;walk_at "rd";refine ite2 (fun ez=>?_) (fun ez=>?_)
  ·have hw:=bf ez
   subst hw;rw [fC rfl,bI et] at q;have sc3:ScaL [V.str "or",V.int ((ρ b:Nat):Int),V.int ((ρ a:Nat):Int)]:=Gt.vs_sca (.or (ρ b) (ρ a));walk_at "rd";rename_i e1 h1 e2 h2;exact q _ ((Ch.new h1 _).trans (Ch.new h2 _))
  ·have w1:=bg ez
   clear ez;refine iteF ?_;rw [bj rfl w0 (fun z=>w1 z.1)] at q
   walk_at "rd";rw [ev];refine iteT ?_;walk_at "rd";rw [esp];exact .inr (.inr (.inl ⟨rfl,gl,fl,al,_,it,ρ a,ρ b,rfl,r,hf,li,la,lb,q⟩))
 | xor a b =>
  have hp:H p=some (.tup [.str "xor",.int a,.int b]):=hp;have hf:H fl=some (.lst [.int ((ρ a:Nat):Int),.int ((ρ b:Nat):Int)]):=hf;obtain ⟨tf,ev,at_,esp⟩:=hT "xor" ∅
  have la:=lf a (by simp [Gt.feeds])
  have lb:=lf b (by simp [Gt.feeds])
  have e3:inV (V.str "xor") [.str "and",.str "or",.str "xor"]=true:=∅
  walk_at "rd";refine ite2 (fun ez=>?_) (fun ez=>?_)
  ·have hw:=bf ez
   subst hw;rw [dB rfl,bI et] at q;have sc2:=Gt.vs_sca (Gt.xor (ρ a) (ρ b));walk_at "rd";rename_i e1 h1 e2 h2 e4 h4;exact q _ (((Ch.new h1 _).trans (Ch.new h2 _)).trans (Ch.new h4 _))
  have w0:=bg ez;clear ez;walk_at "rd";refine ite2 (fun ez=>?_) (fun ez=>?_)
  ·have hw:=bf ez
   subst hw;rw [fC rfl,bI et] at q;have sc3:ScaL [V.str "xor",V.int ((ρ b:Nat):Int),V.int ((ρ a:Nat):Int)]:=Gt.vs_sca (.xor (ρ b) (ρ a));walk_at "rd";rename_i e1 h1 e2 h2;exact q _ ((Ch.new h1 _).trans (Ch.new h2 _))
  ·have w1:=bg ez
   clear ez;refine iteF ?_;rw [bj rfl w0 (fun z=>w1 z.1)] at q
   walk_at "rd";rw [ev];refine iteT ?_;walk_at "rd";rw [esp];exact .inr (.inr (.inr (.inl ⟨rfl,gl,fl,al,_,it,ρ a,ρ b,rfl,r,hf,li,la,lb,q⟩)))
 | pick a b c =>
  have hp:H p=some (.tup [.str "pick",.int a,.int b,.int c]):=hp;have hf:H fl=some (.lst [.int ((ρ a:Nat):Int),.int ((ρ b:Nat):Int),.int ((ρ c:Nat):Int)]):=hf;obtain ⟨tf,ev,at_,esp⟩:=hT "pick" ∅
  have la:=lf a (by simp [Gt.feeds])
  have lb:=lf b (by simp [Gt.feeds])
  have lc:=lf c (by simp [Gt.feeds])
  have e3:inV (V.str "pick") [.str "and",.str "or",.str "xor"]=false:=∅
  walk_at "rd";refine ite2 (fun ez=>?_) (fun ez=>?_)
  ·have hw:=bf ez
   subst hw;rw [dB rfl,bI et] at q;have sc2:=Gt.vs_sca (Gt.pick (ρ a) (ρ b) (ρ c));walk_at "rd";rename_i e1 h1 e2 h2 e4 h4;exact q _ (((Ch.new h1 _).trans (Ch.new h2 _)).trans (Ch.new h4 _))
  have w0:=bg ez;clear ez;walk_at "rd";refine ite2 (fun ez=>?_) (fun ez=>?_)
  ·have hw:=bf ez
   subst hw;rw [bj rfl w0 (fun z=>by cases z.2)] at q
   walk_at "rd";rename_i e1 h1;rw [ev];refine iteT ?_;walk_at "rd";rw [esp];exact .inr (.inr (.inr (.inr (⟨rfl,gl,fl,al,_,it,ρ a,ρ b,ρ c,rfl,GA.ch r (Ch.new h1 _),Ch.get (W:=[]) (Ch.new h1 _) hf ze,li,la,lb,lc,fun H' c=>q _ ((Ch.new h1 _).trans c)⟩))))
  ·have w1:=bg ez
   clear ez;refine iteF ?_;rw [bj rfl w0 (fun z=>w1 z.1)] at q
   walk_at "rd";rw [ev];refine iteT ?_;walk_at "rd";rw [esp];exact .inr (.inr (.inr (.inr (⟨rfl,gl,fl,al,_,it,ρ a,ρ b,ρ c,rfl,r,hf,li,la,lb,lc,q⟩))))
end
end

section
local macro_rules | `(tactic| walk_at "user")=>`(tactic| first
 | (apply GA.ch; (focus with_reducible assumption); (focus walk_at "ch"))
 | exact Gt.vs_sca _)
structure WI (H0 H:Hp) (l:Addr) (al:List Gt):Prop where
 ch:Ch [] H0 H
 fr:H0 l=none
 ga:GA H l al
theorem WI.go {H:Hp}{l:Addr} (h:WI H0 H l al) (c:Ch [] H H1):WI H0 H1 l al:=⟨h.ch.trans c,h.fr,h.ga.ch c⟩
theorem WI.push{l p:Addr}{xs:List V} (h:WI H0 H l al) (hl:H l=some (.lst xs)) (hp:H p=some (.tup g.vs)):WI H0 (upd H l (.lst (xs++[.ref p]))) l (al++[g]):=by
 obtain ⟨ys,hy,gy⟩:=h.ga.ex;rw [hl] at hy;cases hy;have c:Ch [l] H (upd H l (.lst (xs++[.ref p]))):=Ch.put;refine ⟨Ch.forget ((Ch.wk h.ch).trans c) (fun w hw=>by simp at hw; rw [hw]; exact h.fr),h.fr,_,ah,?_⟩
 have t:Tu H (upd H l (.lst (xs++[.ref p]))):=Tu.ch c hl (fun xs z=>by cases z)
 exact (gy.tu t).snoc (t p _ hp)
section
variable {P:Program}{w:World}{K:PySem.W.Frag}{mg:Str->Option Value}{base:Heap}{f:Addr}{fd:FuncData}{k:Nat}
theorem mK:Nd "is_pair" := ∅
theorem gl9:AG (defScope (top 9)) ["len", "is_listed"]:=⟨∅⟩
theorem av9:AF (defScope (top 9)) ["thing"]:=⟨∅⟩
def spPair:Sp:=fun vs H Q _=>∃ (a:Addr) (x y:V),vs=[.ref a]/\H a=some (.tup [x,y])/\∀ H',Ch [] H H'->Q (.bl true) H'
theorem scPair:FnScope ["thing"] ["thing"] (defScope (top 9)):=⟨rfl,rfl,rfl,∅,rfl,∅,∅⟩
theorem wB (F:Fun K "is_pair" "is_pair" (top 9) f fd) (Dis_listed:DefOk P w K mg base CX0 k "is_listed" ["thing"] spListed) (z_len:mg "len" = none):FnOk P w K mg base CX0 (k + 1) f fd ["thing"] spPair:=by
 have nd:=scPair.nd;refine F.ok scPair (fun vs H Q E h=>by obtain ⟨a,x,y,rfl,_⟩:=h; rfl) (fun cdv A outer s0 H vs Q E hr h=>?_)
 obtain ⟨a,x,y,rfl,hx,q⟩:=h;refine ⟨_,(Pr.h (ai (au (bp (av Dis_listed hr (gl9.g 1 rfl) pass0 (aa (qv av9 0 rfl) ab ae) fm) (bc (bo aB (aF aL (gl9.g 0 rfl) z_len yX (aa (qv av9 0 rfl) ab ae) aM aO) ag (nomark _))))))),?_⟩
 (try dsimp only [cxOf])
 walk_at "rd";refine ⟨show SqX .tuple H a [x,y] from hx,fun H1 c1=>?_⟩
 have hx1:=c1.get hx (by simp)
 walk_at "rd";exact q _ c1
theorem gl31:AG (defScope (top 31)) ["is_listed", "list", "len", "tuple", "is_gate"]:=⟨∅⟩
theorem av31:AF (defScope (top 31)) ["small", "lost", "gates", "total", "thing", "gate"]:=⟨∅⟩
def spWL (CN:Addr):Sp:=fun vs H Q _=>∃ (nt gp op ll:Addr) (sg:List Gt) (xs:List V) (so:List Nat) (lo:List Gt) (zs:List V),vs=[.ref nt,.ref ll]/\NetAt CN H nt gp op sg xs so/\H ll=some (.lst zs)/\Gs H lo zs/\sg.length<=1000/\lo.length<=1000/\(∀ (j:Nat) (g:Gt),lo[j]?=some g->g≠.inp/\g.ok (sg.length + j) (sg.length + lo.length)) /\
 ∀ (r:Addr) (H':Hp),Ch [] H H'->GA H' r (sg++lo)->Q (.ref r) H'
theorem scWL:FnScope ["small", "lost", "gates", "total", "thing", "gate"] ["small", "lost"] (defScope (top 31)):=⟨rfl,rfl,rfl,∅,rfl,∅,∅⟩
theorem wC (F:Fun K "with_lost" "with_lost" (top 31) f fd) (cl:Cls K CN) (nG:NoAttr K CN "gates") (Dis_listed:DefOk P w K mg base CX0 k "is_listed" ["thing"] spListed) (Dis_gate:DefOk P w K mg base CX0 k "is_gate" ["thing", "ahead", "total"] spGate) (z_len:mg "len" = none) (z_list:mg "list" = none) (z_tuple:mg "tuple" = none):FnOk P w K mg base CX0 (k + 1) f fd ["small", "lost"] (spWL CN):=by
 have nd:=scWL.nd;refine F.ok scWL (fun vs H Q E h=>by obtain ⟨nt,gp,op,ll,sg,xs,so,lo,zs,rfl,_⟩:=h; rfl) (fun cdv A outer s0 H vs Q E hr h=>?_)
 obtain ⟨nt,gp,op,ll,sg,xs,so,lo,zs,rfl,na,hll,gz,ls,l2,lok,q⟩:=h;refine ⟨_,(Pr.h (aj (aw (bW (aU (av Dis_listed hr (gl31.g 0 rfl) pass0 (aa (qv av31 1 rfl) ab ae) fm))) (ai (au cH)) az) (aj (aE (i:=2) nd rfl (av31.l 2 rfl) (bQ di (gl31.g 1 rfl) z_list cX (aa (aT (qv av31 0 rfl) rfl) ab bH) cY cZ)) (aj (aE (i:=3) nd rfl (av31.l 3 rfl) (ar bN (aF aL (gl31.g 2 rfl) z_len yX (aa (qv av31 2 rfl) ab ae) aM aO) (aF aL (gl31.g 2 rfl) z_len yX (aa (qv av31 1 rfl) ab ae) aM aO))) (aj (bB zm rfl (cf (qv av31 1 rfl)) (aG (i:=4) nd rfl (av31.l 4 rfl)) (bG (aE (i:=5) nd rfl (av31.l 5 rfl) (fZ (aU (av Dis_listed hr (gl31.g 0 rfl) pass0 (aa (qv av31 4 rfl) ab ae) fm)) (bQ dP (gl31.g 3 rfl) z_tuple dt (aa (qv av31 4 rfl) ab ae) du dz) cH)) (aj (aw (br (bK (bW (aU (av Dis_gate hr (gl31.g 4 rfl) pass0 (aa (qv av31 5 rfl) (aa (aF aL (gl31.g 2 rfl) z_len yX (aa (qv av31 2 rfl) ab ae) aM aO) (aa (qv av31 3 rfl) ab ae) bb) ae) lh))) (bR (ay aB (ak aH (qv av31 5 rfl) ag (fun _ _=>rfl)) aq (nomark _))))) (ai (au cH)) az) (ai (bM (cm zM zW zX cC (qv av31 2 rfl) (aa (qv av31 5 rfl) ab ae))))))) (ai (au (qv av31 2 rfl)))))))),?_⟩
 (try dsimp only [cxOf])
 obtain ⟨dx,ob⟩:=na.ob;have gt:=na.gt;walk_at "rd";refine ⟨show SqX .list H ll zs from hll,fun H1 c1=>?_⟩
 have ob1:=c1.get ob (by simp)
 have gt1:=c1.get gt (by simp)
 have hll1:=c1.get hll (by simp)
 have gz1:=gz.tu (Tu.same c1);have gg1:=na.gg.tu (Tu.same c1);walk_at "rd";rename_i l hl;have lx:xs.length=sg.length:=na.gg.len;have lz:zs.length=lo.length:=gz.len;refine fX (xs:=zs) (fun i σ H'=>WI H H' l (sg++lo.take i)/\∃ u v,σ=[some (.ref nt),some (.ref ll),some (.ref l),some (.int ((xs.length:Int) + (zs.length:Int))),u,v]) ⟨?_,_,_,rfl⟩ ?_ ?_ ?_
 ·have fr:H l=none:=by
   cases e:H l with
   | none=>rfl
   | some o=>rw [c1.get e (by simp)] at hl; cases hl
  refine ⟨c1.trans (Ch.new hl _),fr,⟨xs,ah,?_⟩⟩;rw [List.take_zero,List.append_nil];exact gg1.tu (Tu.same (Ch.new hl _))
 ·rintro i σ H' hi ⟨wi,_⟩
  exact SqL.of (wi.ch.get hll (by simp))
 ·rintro i x σ H' hx ⟨wi,u,v,rfl⟩
  have li:i < lo.length:=by rw [<- lz]; exact (yR.mp hx).1
  obtain ⟨g,eg⟩:∃ g,lo[i]?=some g:=⟨_,yO li⟩;obtain ⟨p,e1,e2⟩:=gz.at_ i g eg;rw [hx] at e1;cases e1;have hp1:=wi.ch.get e2 (by simp)
  obtain ⟨ni,ok⟩:=lok i g eg;walk_at "rd";refine bC (fun σ H2=>WI H H2 l (sg++lo.take i)/\σ=[some (.ref nt),some (.ref ll),some (.ref l),some (.int ((xs.length:Int) + (zs.length:Int))),some (.ref p),some (.ref p)]) ?_ ?_
  ·walk_at "rd"
   refine ⟨show SqX .tuple H' p g.vs from hp1,fun H2 c2=>?_⟩
   have hp2:=c2.get hp1 (by simp)
   walk_at "rd";exact ⟨wi.go c2,rfl⟩
  ·rintro σ H2 ⟨wi2,rfl⟩
   obtain ⟨ys,hy,gy⟩:=wi2.ga.ex;have hp2:=wi2.ch.get e2 (by simp)
   have ly:ys.length=sg.length + i:=by rw [gy.len,zk,zH]; omega
   obtain ⟨wd,rs,ev,hd⟩:=ft g;have ei:g.isIn=false:=by cases g <;> first | rfl | exact absurd rfl ni
   rw [ei] at hd;walk_at "rd";refine ⟨by rw [ly,lx,lz]; exact ok,fun H3 c3=>?_⟩
   have hp3:=c3.get hp2 (by simp)
   have hp4:=hp3;rw [ev] at hp4;have hy3:=c3.get hy (by simp)
   have wi3:=wi2.go c3;walk_at "rd";rw [hd];refine iteF ?_;walk_at "rd";refine ⟨?_,_,_,rfl⟩;rw [zx,eg];show WI _ _ _ (sg++(lo.take i++[g]));rw [<- List.append_assoc];exact wi3.push hy3 hp3
 ·rintro σ H' ⟨wi,u,v,rfl⟩
  walk_at "rd";have e:sg++lo.take zs.length=sg++lo:=by rw [lz,zu]
  rw [e] at wi;exact q _ _ wi.ch wi.ga
theorem gl32:AG (defScope (top 32)) ["len", "is_listed", "is_below", "is_pair"]:=⟨∅⟩
theorem av32:AF (defScope (top 32)) ["pairs", "count", "total", "pair"]:=⟨∅⟩
def spAP:Sp:=fun vs H Q _=>∃ (ql:Addr) (prs:List (Nat × Str)) (qs:List V) (n t:Nat),vs=[.ref ql,.int (n:Int),.int (t:Int)]/\H ql=some (.lst qs)/\Prs H prs qs/\prs.length=n/\(∀ p∈prs,p.1 < t)/\∀ (H':Hp),Ch [] H H'->Q (.bl true) H'
theorem scAP:FnScope ["pairs", "count", "total", "pair"] ["pairs", "count", "total"] (defScope (top 32)):=⟨rfl,rfl,rfl,∅,rfl,∅,∅⟩
theorem wD (F:Fun K "are_pairs" "are_pairs" (top 32) f fd) (Dis_listed:DefOk P w K mg base CX0 k "is_listed" ["thing"] spListed) (Dis_pair:DefOk P w K mg base CX0 k "is_pair" ["thing"] spPair) (Dis_below:DefOk P w K mg base CX0 k "is_below" ["thing", "bound"] spBelow) (z_len:mg "len" = none):FnOk P w K mg base CX0 (k + 1) f fd ["pairs", "count", "total"] spAP:=by
 have nd:=scAP.nd;refine F.ok scAP (fun vs H Q E h=>by obtain ⟨ql,prs,qs,n,t,rfl,_⟩:=h; rfl) (fun cdv A outer s0 H vs Q E hr h=>?_)
 obtain ⟨ql,prs,qs,n,t,rfl,hql,pp,ln,lt,q⟩:=h;refine ⟨_,(Pr.h (aj (aw (br (bK (bW (aU (av Dis_listed hr (gl32.g 1 rfl) pass0 (aa (qv av32 0 rfl) ab ae) fm))) (bR (ay ed (aF aL (gl32.g 0 rfl) z_len yX (aa (qv av32 0 rfl) ab ae) aM aO) (qv av32 1 rfl) (nomark _))))) (ai (au bz)) az) (aj (bB zm rfl (cf (qv av32 0 rfl)) (aG (i:=3) nd rfl (av32.l 3 rfl)) (ai (aw (br (bZ (ay jT (qv av32 3 rfl) cH (nomark _)) (cI (bW (br (bZ (aU (av Dis_pair hr (gl32.g 3 rfl) pass0 (aa (qv av32 3 rfl) ab ae) mK)) (cI (aU (av Dis_below hr (gl32.g 2 rfl) pass0 (aa (ak aH (qv av32 3 rfl) ag (fun _ _=>rfl)) (aa (qv av32 2 rfl) ab ae) aK) dW))))))))) (ai (au bz)) az))) (ai (au bz))))),?_⟩
 (try dsimp only [cxOf])
 have lq:qs.length=n:=by rw [pp.len]; exact ln
 walk_at "rd";refine ⟨show SqX .list H ql qs from hql,fun H1 c1=>?_⟩
 have hql1:=c1.get hql (by simp)
 walk_at "rd";refine iteNn (by rw [lq]) ?_
 walk_at "rd";refine fX (xs:=qs) (fun i σ H'=>Ch [] H H'/\∃ u,σ=[some (.ref ql),some (.int (n:Int)),some (.int (t:Int)),u]) ⟨c1,_,rfl⟩ ?_ ?_ ?_
 ·rintro i σ H' hi ⟨c,_⟩
  exact SqL.of (c.get hql (by simp))
 ·rintro i x σ H' hx ⟨c,u,rfl⟩
  have li:i < prs.length:=by rw [<- pp.len]; exact (yR.mp hx).1
  obtain ⟨p,ep⟩:∃ p,prs[i]?=some p:=⟨_,yO li⟩;obtain ⟨a,e1,e2⟩:=pp.at_ i p ep;rw [hx] at e1;cases e1;have ha:=c.get e2 (by simp)
  have lp:=lt p (zc ep);walk_at "rd"
 ·rintro σ H' ⟨c,u,rfl⟩
  walk_at "rd";exact q _ c
end
end

section
def bi:Bool->Int
 | true=>1
 | false=>0
def bV (b:Bool):V:=.int (bi b)
def evalG (row kept:List Bool) (ni nk:Nat) (bs:List Bool):Gt->Bool
 | .inp=>row.getD ni false
 | .keep _ _=>kept.getD nk false
 | .zero=>false
 | .one=>true
 | .not a=>!(bs.getD a false)
 | .and a b=>bs.getD a false && bs.getD b false
 | .or a b=>bs.getD a false || bs.getD b false
 | .xor a b=>xor (bs.getD a false) (bs.getD b false)
 | .pick a b c=>if bs.getD a false then bs.getD b false else bs.getD c false
def cnt (t:Gt->Bool) (gs:List Gt) (i:Nat):Nat:=(numsOf t (gs.take i) 0).length
def upto (gs:List Gt) (row kept:List Bool):Nat->List Bool
 | 0=>[]
 | i + 1=>match gs[i]? with
  | some g=>upto gs row kept i++[evalG row kept (cnt Gt.isIn gs i) (cnt Gt.isKeep gs i) (upto gs row kept i) g]
  | none=>upto gs row kept i
theorem eN {gs:List Gt}{row kept:List Bool}:∀ {i:Nat},i<=gs.length->(upto gs row kept i).length=i
 | 0,_=>rfl
 | i + 1,h=>by
  have ih:=eN (gs:=gs) (row:=row) (kept:=kept) (i:=i) (by omega)
  have e:gs[i]?=some gs[i]:=yO (by omega)
  simp only [upto,e,zk,ih,AD]
theorem fD{row kept:List Bool}{i:Nat} (h:gs[i]?=some g) :
  upto gs row kept (i + 1)=upto gs row kept i++[evalG row kept (cnt Gt.isIn gs i) (cnt Gt.isKeep gs i) (upto gs row kept i) g]:=by
 simp only [upto,h]
theorem wF (a b:Bool):Builtin.bitAnd (bi a) (bi b)=bi (a && b):=by cases a <;> cases b <;> decide +kernel
theorem wG (a b:Bool):Builtin.bitOr (bi a) (bi b)=bi (a || b):=by cases a <;> cases b <;> decide +kernel
theorem wH (a b:Bool):Builtin.bitXor (bi a) (bi b)=bi (xor a b):=by cases a <;> cases b <;> decide +kernel
def fldsP (gp op ip kp:Addr) (kept bits:V):List (Str × V):=[("gates",.ref gp),("outs",.ref op),("ins",.ref ip),("keeps",.ref kp),("kept",kept),("bits",bits)]
section
variable {gp op ip kp:Addr}{a b:V}
theorem mL:List.lookup (Str.ofString "gates") (fldsP gp op ip kp a b)=some (.ref gp):=rfl
theorem wI:List.lookup (Str.ofString "outs") (fldsP gp op ip kp a b)=some (.ref op):=rfl
theorem wJ:List.lookup (Str.ofString "ins") (fldsP gp op ip kp a b)=some (.ref ip):=rfl
theorem wK:List.lookup (Str.ofString "keeps") (fldsP gp op ip kp a b)=some (.ref kp):=rfl
theorem wL:List.lookup (Str.ofString "kept") (fldsP gp op ip kp a b)=some a:=rfl
theorem wM {c:V}:putF "kept" c (fldsP gp op ip kp a b)=fldsP gp op ip kp c b:=rfl
theorem wN {c:V}:putF "bits" c (fldsP gp op ip kp a b)=fldsP gp op ip kp a c:=rfl
end
structure PlAt (C:Addr) (H:Hp) (y gp op ip kp kl:Addr) (bits:V) (gs:List Gt) (xs:List V) (os:List Nat) (kept:List Bool):Prop where
 ob:∃ dx,H y=some (.ins C dx (fldsP gp op ip kp (.ref kl) bits))
 gt:H gp=some (.tup xs)
 gg:Gs H gs xs
 ot:H op=some (.tup (os.map nV))
 it:H ip=some (.lst ((numsOf Gt.isIn gs 0).map nV))
 kt:H kp=some (.lst ((numsOf Gt.isKeep gs 0).map nV))
 kl:H kl=some (.lst (kept.map bV))
 kn:kept.length=(numsOf Gt.isKeep gs 0).length
section
variable {P:Program}{w:World}{K:PySem.W.Frag}{mg:Str->Option Value}{base:Heap}{f:Addr}{fd:FuncData}{k:Nat}
theorem wO:Nd "ask_values" := ∅
theorem je:Nd "ins_of" := ∅
theorem wQ:Nd "keeps_of" := ∅
theorem gl12:AG (defScope (top 12)) ["ask_length", "ask_values", "len"]:=⟨∅⟩
theorem av12:AF (defScope (top 12)) ["row", "length"]:=⟨∅⟩
def spBits:Sp:=fun vs H Q _=>∃ (kd:SK) (a:Addr) (n:Int) (bs:List Bool),vs=[.ref a,.int n]/\SqX kd H a (bs.map bV)/\n=(bs.length:Int)/\bs.length<=1000/\∀ H',Ch [] H H'->Q .non H'
theorem scBits:FnScope ["row", "length"] ["row", "length"] (defScope (top 12)):=⟨rfl,rfl,rfl,∅,rfl,∅,∅⟩
theorem wR (F:Fun K "ask_bits" "ask_bits" (top 12) f fd) (Dask_length:DefOk P w K mg base CX0 k "ask_length" ["row", "length"] spLength) (Dask_values:DefOk P w K mg base CX0 k "ask_values" ["row", "wides"] spValues) (z_len:mg "len" = none):FnOk P w K mg base CX0 (k + 1) f fd ["row", "length"] spBits:=by
 have nd:=scBits.nd;refine F.ok scBits (fun vs H Q E h=>by obtain ⟨kd,a,n,bs,rfl,_⟩:=h; rfl) (fun cdv A outer s H vs Q E hr h=>?_)
 obtain ⟨kd,a,n,bs,rfl,hx,rfl,hl,q⟩:=h;refine ⟨_,(Pr.h (aj (bM (av Dask_length hr (gl12.g 0 rfl) pass0 (aa (qv av12 0 rfl) (aa (qv av12 1 rfl) ab ae) ae) iF)) (ai (bM (av Dask_values hr (gl12.g 1 rfl) pass0 (aa (qv av12 0 rfl) (aa (ar ij (bD (aa ag ab ax)) (aF aL (gl12.g 2 rfl) z_len yX (aa (qv av12 0 rfl) ab ae) aM aO)) ab bh) ae) wO))))),?_⟩
 (try dsimp only [cxOf])
 have eb:bs.map bV=(bs.map bi).map V.int:=by rw [List.map_map]; rfl
 have hb2:∀ x∈bs.map bi,0<=x/\x < 2:=by
  intro x hx;obtain ⟨b,_,rfl⟩:=Aa.mp hx;cases b <;> decide
 rw [eb] at hx;refine ⟨_,rfl,_,rfl,kd,a,_,_,rfl,hx,by simp,fun H1 c1=>?_⟩
 have hx1:SqX kd H1 a ((bs.map bi).map V.int):=by
  cases kd with
  | list=>exact c1.get hx (by simp)
  | tuple=>exact c1.get hx (by simp)
 cases kd with
 | list =>
  have hx2:H1 a=some (.lst ((bs.map bi).map V.int)):=hx1;walk_at "rd";rename_i p1 hp1 p2 hp2;refine ⟨show SqX SK.list _ a (List.map V.int (bs.map bi)) from aA hp2 (aA hp1 hx2),?_,hb2,fun H' c=>q _ (((c1.trans (Ch.new hp1 _)).trans (Ch.new hp2 _)).trans c)⟩
  rw [ah,fu]; simp
 | tuple =>
  have hx2:H1 a=some (.tup ((bs.map bi).map V.int)):=hx1;walk_at "rd";rename_i p1 hp1 p2 hp2;refine ⟨show SqX SK.tuple _ a (List.map V.int (bs.map bi)) from aA hp2 (aA hp1 hx2),?_,hb2,fun H' c=>q _ (((c1.trans (Ch.new hp1 _)).trans (Ch.new hp2 _)).trans c)⟩
  rw [ah,fu]; simp
theorem av38:AF (defScope (top 38)) ["word", "fed", "whole"]:=⟨∅⟩
theorem wU (b:Bool):Builtin.bitXor 1 (bi b)=bi (!b):=by cases b <;> decide +kernel
theorem wV (a b c:Bool):Builtin.bitOr (Builtin.bitAnd (bi a) (bi b)) (Builtin.bitAnd (Builtin.bitXor 1 (bi a)) (bi c))=bi (if a then b else c):=by cases a <;> cases b <;> cases c <;> decide +kernel
def spTold:Sp:=fun vs H Q _=>∃ (r:Addr) (g:Gt) (bs:List Bool),vs=[.str g.wd,.ref r,.int 1]/\g.src=false/\H r=some (.lst (g.feeds.map fun a=>bV (bs.getD a false)))/\Q (bV (evalG [] [] 0 0 bs g)) H
theorem scTold:FnScope ["word", "fed", "whole"] ["word", "fed", "whole"] (defScope (top 38)):=⟨rfl,rfl,rfl,∅,rfl,∅,∅⟩
theorem wW (F:Fun K "gate_bits" "gate_bits" (top 38) f fd):FnOk P w K mg base CX0 (k + 1) f fd ["word", "fed", "whole"] spTold:=by
 have nd:=scTold.nd;refine F.ok scTold (fun vs H Q E h=>by obtain ⟨r,g,bs,rfl,_⟩:=h; rfl) (fun cdv A outer s H vs Q E hr h=>?_)
 obtain ⟨r,g,bs,rfl,hs,hf,q⟩:=h;refine ⟨_,(Pr.h (aj (aw (ay aB (qv av38 0 rfl) aq (nomark _)) (ai (au ag)) az) (aj (aw (ay aB (qv av38 0 rfl) aq (nomark _)) (ai (au (qv av38 2 rfl))) az) (aj (aw (ay aB (qv av38 0 rfl) aq (nomark _)) (ai (au (ar ia (qv av38 2 rfl) (ak aC (qv av38 1 rfl) ag (fun _ _=>rfl))))) az) (aj (aw (ay aB (qv av38 0 rfl) aq (nomark _)) (ai (au (ar hZ (ak aC (qv av38 1 rfl) ag (fun _ _=>rfl)) (ak aC (qv av38 1 rfl) ag (fun _ _=>rfl))))) az) (aj (aw (ay aB (qv av38 0 rfl) aq (nomark _)) (ai (au (ar jO (ak aC (qv av38 1 rfl) ag (fun _ _=>rfl)) (ak aC (qv av38 1 rfl) ag (fun _ _=>rfl))))) az) (aj (aw (ay aB (qv av38 0 rfl) aq (nomark _)) (ai (au (ar ia (ak aC (qv av38 1 rfl) ag (fun _ _=>rfl)) (ak aC (qv av38 1 rfl) ag (fun _ _=>rfl))))) az) (ai (au (ar jO (ar hZ (ak aC (qv av38 1 rfl) ag (fun _ _=>rfl)) (ak aC (qv av38 1 rfl) ag (fun _ _=>rfl))) (ar hZ (ar ia (qv av38 2 rfl) (ak aC (qv av38 1 rfl) ag (fun _ _=>rfl))) (ak aC (qv av38 1 rfl) ag (fun _ _=>rfl))))))))))))),?_⟩
 (try dsimp only [cxOf])
 cases g with
 | inp=>cases hs
 | keep _ _=>cases hs
 | zero =>
  have hf:H r=some (.lst []):=hf;walk_at "rd";exact q
 | one =>
  have hf:H r=some (.lst []):=hf;walk_at "rd";exact q
 | not a =>
  have hf:H r=some (.lst [.int (bi (bs.getD a false))]):=hf;walk_at "rd";refine Eq.mp (za (fun z=>Q (.int z) H) (wU _).symm) ?_
  exact q
 | and a b =>
  have hf:H r=some (.lst [.int (bi (bs.getD a false)),.int (bi (bs.getD b false))]):=hf;walk_at "rd";refine Eq.mp (za (fun z=>Q (.int z) H) (wF _ _).symm) ?_
  exact q
 | or a b =>
  have hf:H r=some (.lst [.int (bi (bs.getD a false)),.int (bi (bs.getD b false))]):=hf;walk_at "rd";refine Eq.mp (za (fun z=>Q (.int z) H) (wG _ _).symm) ?_
  exact q
 | xor a b =>
  have hf:H r=some (.lst [.int (bi (bs.getD a false)),.int (bi (bs.getD b false))]):=hf;walk_at "rd";refine Eq.mp (za (fun z=>Q (.int z) H) (wH _ _).symm) ?_
  exact q
 | pick a b c =>
  have hf:H r=some (.lst [.int (bi (bs.getD a false)),.int (bi (bs.getD b false)),.int (bi (bs.getD c false))]):=hf;walk_at "rd";refine Eq.mp (za (fun z=>Q (.int z) H) (wV _ _ _).symm) ?_
  exact q
local macro_rules | `(tactic| walk_at "user")=>`(tactic| (refine (‹∀ H':Hp,Ch _ _ H'->NetAt _ H' _ _ _ _ _ _›) _ ?_; walk_at "ch"))
theorem av40m0:AF (defScope (inClass (top 40) 0)) ["self", "net"]:=⟨∅⟩
theorem gl40m0:AG (defScope (inClass (top 40) 0)) ["ins_of", "keeps_of"]:=⟨∅⟩
def jf:Scope:=⟨.function,[(".0",.local),("number",.local),("net",.free)],false,false,[]⟩
theorem mM:CompOk jf (defScope (inClass (top 40) 0)) (["number"]:List Str) (["self", "net"]:List Str) [1] (["number", "net"]:List Str):=compOk rfl ∅ ∅ ∅ ∅ rfl ∅
theorem mO:AK (relab jf (defScope (inClass (top 40) 0))) ["number"]:=⟨∅⟩
theorem mQ:AV (relab jf (defScope (inClass (top 40) 0))) ["number", "net"]:=⟨∅⟩
def firsts:List Gt->List Bool
 | []=>[]
 | .keep f _ :: gs=>decide (f=1) :: firsts gs
 | _ :: gs=>firsts gs
theorem jg:∀ {gs:List Gt}{j i n:Nat},(numsOf Gt.isKeep gs j)[i]?=some n->j<=n/\∃ f a,gs[n - j]?=some (.keep f a)/\(firsts gs)[i]?=some (decide (f=1))
 | [],j,i,n,h=>by simp [numsOf] at h
 | g :: gs,j,i,n,h=>by
  cases hk:g.isKeep with
  | false =>
   have e:numsOf Gt.isKeep (g :: gs) j=numsOf Gt.isKeep gs (j + 1):=by simp [numsOf,hk]
   rw [e] at h;obtain ⟨hj,f,a,h1,h2⟩:=jg h;refine ⟨by omega,f,a,?_,?_⟩
   ·rw [show n - j=(n - (j + 1)) + 1 by omega]; simpa using h1
   ·cases g <;> first | (cases hk; done) | exact h2
  | true =>
   have e:numsOf Gt.isKeep (g :: gs) j=j :: numsOf Gt.isKeep gs (j + 1):=by simp [numsOf,hk]
   rw [e] at h;cases g <;> first | (cases hk; done) | skip
   rename_i f a;cases i with
   | zero =>
    simp at h;subst h;exact ⟨yP _,f,a,by simp,rfl⟩
   | succ i =>
    obtain ⟨hj,f',a',h1,h2⟩:=jg (i:=i) (by simpa using h)
    refine ⟨by omega,f',a',?_,by simpa [firsts] using h2⟩
    rw [show n - j=(n - (j + 1)) + 1 by omega]; simpa using h1
theorem mR (h:(numsOf Gt.isKeep gs 0)[i]?=some n):∃ f a,gs[n]?=some (.keep f a)/\(firsts gs)[i]?=some (decide (f=1)):=by
 obtain ⟨_,f,a,h1,h2⟩:=jg h;exact ⟨f,a,h1,h2⟩
theorem gW:∀ (gs:List Gt) (j:Nat),(firsts gs).length=(numsOf Gt.isKeep gs j).length
 | [],_=>rfl
 | g :: gs,j=>by
  have:=gW gs (j + 1);cases g <;> simp [firsts,numsOf,Gt.isKeep,this]
def spPly (CN C:Addr):Sp:=fun vs H Q _=>∃ (y dx nt gp op:Addr) (gs:List Gt) (xs:List V) (os:List Nat),vs=[.ref y,.ref nt]/\H y=some (.ins C dx [])/\NetAt CN H nt gp op gs xs os/\Oks gs/\gs.length<=1000 /\
 ∀ ip kp kl H',Ch [y] H H'->H ip=none->H kp=none->H kl=none->PlAt C H' y gp op ip kp kl .non gs xs os (firsts gs)->Q .non H'
theorem scPly:FnScope ["self", "net"] ["self", "net"] (defScope (inClass (top 40) 0)):=⟨rfl,rfl,rfl,∅,rfl,∅,∅⟩
theorem wX (F:Fun K "__init__" "NetPlayer.__init__" (inClass (top 40) 0) f fd) (clN:Cls K CN) (nNG:NoAttr K CN "gates") (nNO:NoAttr K CN "outs") (cl:Cls K C) (nG:NoAttr K C "gates") (nO:NoAttr K C "outs") (nI:NoAttr K C "ins") (nK:NoAttr K C "keeps") (nT:NoAttr K C "kept") (nB:NoAttr K C "bits")
  (Dins_of:DefOk P w K mg base CX0 k "ins_of" ["net"] (spIns CN)) (Dkeeps_of:DefOk P w K mg base CX0 k "keeps_of" ["net"] (spKeeps CN)):FnOk P w K mg base CX0 (k + 1) f fd ["self", "net"] (spPly CN C):=by
 have nd:=scPly.nd;refine F.ok scPly (fun vs H Q E h=>by obtain ⟨y,dx,nt,gp,op,gs,xs,os,rfl,_⟩:=h; rfl) (fun cdv A outer s H vs Q E hr h=>?_)
 obtain ⟨y,dx,nt,gp,op,gs,xs,os,rfl,hy,hN,hok,hlen,q⟩:=h;refine ⟨_,(Pr.h (aj (cR (qv av40m0 0 rfl) (aT (qv av40m0 1 rfl) rfl) rfl) (aj (cR (qv av40m0 0 rfl) (aT (qv av40m0 1 rfl) rfl) rfl) (aj (cR (qv av40m0 0 rfl) (av Dins_of hr (gl40m0.g 0 rfl) pass0 (aa (qv av40m0 1 rfl) ab ae) je) rfl) (aj (cR (qv av40m0 0 rfl) (av Dkeeps_of hr (gl40m0.g 1 rfl) pass0 (aa (qv av40m0 1 rfl) ab ae) wQ) rfl) (aj (cR (qv av40m0 0 rfl) (cq rfl mM (cf (aT (qv av40m0 0 rfl) rfl)) (fun _ _ _ _ _=>(aG (i:=0) mM.nd rfl (Or.inl (mO.k 0 rfl)) (Or.inr (mO.k 0 rfl)))) (fun _ _ _ _ _=>bY) (fun _ _ _ _ _=>(ak (cV K rfl) (ak (cV K rfl) (kU K rfl (qw mQ 1 rfl) rfl) (qw mQ 0 rfl) (fun _ _=>rfl)) ag (fun _ _=>rfl)))) rfl) (ai (cR (qv av40m0 0 rfl) cH rfl)))))))),?_⟩
 (try dsimp only [cxOf])
 obtain ⟨⟨dn,hn⟩,hg,hgs,ho⟩:=id hN;have fg:=dJ gp op;have fo:=fq gp op;have ny:nt≠y:=aV hn hy (by intro z; cases z)
 have hNk:∀ H':Hp,Ch [y] H H'->NetAt CN H' nt gp op gs xs os:=fun H' c=>⟨⟨dn,c.get hn (by simpa using ny)⟩,c.get hg (by simpa using aV hg hy (by intro z; cases z)),hgs.tu (Tu.ch c hy (fun xs z=>by cases z)),c.get ho (by simpa using aV ho hy (by intro z; cases z))⟩
 walk_at "rd";rename_i r1 H1 c1 f1 g1 r2 H2 c2 f2 g2;have y2:H2 y=some (.ins C dx (putF "ins" (V.ref r1) (putF "outs" (V.ref op) (putF "gates" (V.ref gp) [])))):=c2.get ah (by simp)
 have n2:r2≠y:=aV g2 y2 (by intro z; cases z)
 have n1:r1≠y:=by
  have:H1 y=some (.ins C dx (putF "outs" (V.ref op) (putF "gates" (V.ref gp) []))):=c1.get ah (by simp)
  exact aV g1 this (by intro z; cases z)
 have cc:Ch [y] H (upd H2 y (HO.ins C dx (putF "keeps" (V.ref r2) (putF "ins" (V.ref r1) (putF "outs" (V.ref op) (putF "gates" (V.ref gp) [])))))) :=
  (((((Ch.put).trans Ch.put).trans (Ch.wk c1)).trans Ch.put).trans (Ch.wk c2)).trans Ch.put
 refine ⟨⟨_,SqL.of (aJ n2 g2)⟩,?_⟩;refine dq ((numsOf Gt.isKeep gs 0).map nV) (fun i ys σ H'=>Ch [] (upd H2 y (HO.ins C dx (putF "keeps" (V.ref r2) (putF "ins" (V.ref r1) (putF "outs" (V.ref op) (putF "gates" (V.ref gp) [])))))) H'/\ys=((firsts gs).take i).map bV/\∃ u,σ=[u,some (.ref nt)]) ?_ ⟨Ch.refl _ _,rfl,_,rfl⟩ ?_ ?_ ?_
 ·have:=dI Gt.isKeep gs 0
  rw [yS,zf]; omega
 ·rintro i ys σ H' hi ⟨c,rfl,_⟩
  refine ⟨by simp; omega,SqL.of (c.get (aJ n2 g2) (by simp))⟩
 ·rintro i ys σ H' x hx ⟨c,rfl,u,rfl⟩
  obtain ⟨n,hn',rfl⟩:∃ n,(numsOf Gt.isKeep gs 0)[i]?=some n/\x=nV n:=by
   rw [yY] at hx;obtain ⟨z,h1,h2⟩:=zt.mp hx;exact ⟨z,h1,h2.symm⟩
  obtain ⟨ff,a,hgn,hfi⟩:=mR hn';obtain ⟨h0,h1,_⟩:0<=ff/\ff < 2/\_:=hok n _ hgn;obtain ⟨⟨dn',hn3⟩,hg3,hgs3,ho3⟩:=hNk H' (cc.trans (Ch.wk c));obtain ⟨p,ep,hp⟩:=hgs3.at_ n _ hgn;have hat:atI xs (n:Int)=some (.ref p):=bA ep;have hp:H' p=some (.tup [.str "keep",.int ff,.int a]):=hp;have ey:V.int ff=bV (decide (ff=1)):=by
   have:ff=0\/ff=1:=by omega
   rcases this with rfl | rfl <;> rfl
  unfold nV;walk_at "rd";refine ⟨?_,_,rfl⟩;rw [zx,hfi,ey]; simp
 ·rintro ys σ H' ⟨c,rfl,_⟩
  intro D hD;have hD2:H2 D=none:=by
   have:=chFree c hD
   by_cases e:D=y
   ·rw [e,ah] at this; cases this
   ·rw [aR e] at this; exact this
  have y3:upd H' D (.lst (((firsts gs).take ((numsOf Gt.isKeep gs 0).map nV).length).map bV)) y=some (HO.ins C dx (putF "keeps" (V.ref r2) (putF "ins" (V.ref r1) (putF "outs" (V.ref op) (putF "gates" (V.ref gp) []))))):=aA hD (c.get ah (by simp))
  walk_at "rd";have nD:D≠y:=by
   intro e;rw [e,c.get ah (by simp)] at hD
   cases hD
  have un:∀ {G:Hp}{o:HO}{b:Addr},b≠y->upd G y o b=none->G b=none:=fun n h=>by rw [aR n] at h; exact h
  have h1r:H r1=none:=un n1 (un n1 f1);have h2r:H r2=none:=un n2 (un n2 (chFree c1 (un n2 f2)));have hDr:H D=none:=un nD (un nD (chFree c1 (un nD (chFree c2 hD2))));have tk:(firsts gs).take ((numsOf Gt.isKeep gs 0).map nV).length=firsts gs:=List.take_of_length_le (by rw [yS,gW gs 0]; exact yP _)
  rw [tk];have fin:∀ G:Hp,Ch [y] H G->G y=some (.ins C dx (fldsP gp op r1 r2 (.ref D) .non))->G r1=some (.lst ((numsOf Gt.isIn gs 0).map nV))->G r2=some (.lst ((numsOf Gt.isKeep gs 0).map nV))->G D=some (.lst ((firsts gs).map bV))->Q .non G:=by
   intro G cF y5 i5 k5 l5;obtain ⟨_,hg4,hgs4,ho4⟩:=hNk _ cF;exact q r1 r2 D _ cF h1r h2r hDr ⟨⟨dx,y5⟩,hg4,hgs4,ho4,i5,k5,l5,gW gs 0⟩
  refine fin _ ((((cc.trans (Ch.wk c)).trans (Ch.new hD _)).trans Ch.put).trans Ch.put) ah ?_ ?_ ?_
  ·exact aJ n1 (aJ n1 (aA hD (c.get (aJ n1 (c2.get (aJ n1 g1) (by simp))) (by simp))))
  ·exact aJ n2 (aJ n2 (aA hD (c.get (aJ n2 g2) (by simp))))
  ·exact aJ nD (aJ nD ah)
end
end

section
theorem fF {t:Gt->Bool}:∀ {gs:List Gt}{j n:Nat},n∈numsOf t gs j->j<=n/\∃ g,gs[n - j]?=some g/\t g=true
 | [],j,n,h=>by simp [numsOf] at h
 | g :: gs,j,n,h=>by
  have step:n∈numsOf t gs (j + 1)->j<=n/\∃ g',(g :: gs)[n - j]?=some g'/\t g'=true:=fun h=>by
   obtain ⟨h1,g',h2,h3⟩:=fF h;refine ⟨by omega,g',?_,h3⟩
   rw [show n - j=(n - (j + 1)) + 1 by omega]; simpa using h2
  simp only [numsOf] at h
  split at h
  ·rcases yZ.mp h with rfl | h
   ·exact ⟨yP _,g,by simp,by assumption⟩
   ·exact step h
  ·exact step h
theorem jh (t:Gt->Bool):∀ (gs:List Gt) (j:Nat),(numsOf t gs j).Nodup
 | [],_=>by simp [numsOf]
 | g :: gs,j=>by
  have ih:=jh t gs (j + 1);simp only [numsOf]
  split
  ·refine Az.mpr ⟨fun h=>?_,ih⟩
   have:=(fF h).1;omega
  ·exact ih
theorem fH (t:Gt->Bool):∀ (gs:List Gt) (j:Nat),(numsOf t gs j).length=gs.countP t
 | [],_=>rfl
 | g :: gs,j=>by
  have ih:=fH t gs (j + 1);simp only [numsOf,AI]
  split <;> simp [ih, *]
def pairs (ns:List Nat) (bs:List Bool):List (Key × V):=(ns.zip bs).map fun nb=>(Sum.inl (nb.1:Int),bV nb.2)
theorem ji (n:Nat) (ns:List Nat) (b:Bool) (bs:List Bool):pairs (n :: ns) (b :: bs)=(Sum.inl (n:Int),bV b) :: pairs ns bs:=rfl
theorem dY (h:bs.length=ns.length):(pairs ns bs).length=ns.length:=by simp [pairs,h]
theorem jj:∀ {ns:List Nat}{bs:List Bool},bs.length=ns.length->(pairs ns bs).map (·.1)=ns.map fun (n:Nat)=>(Sum.inl (n:Int):Key)
 | [],bs,h=>by simp [pairs]
 | n :: ns,[],h=>by simp at h
 | n :: ns,b :: bs,h=>by rw [ji,zG,jj (by simpa using h),zG]
theorem wY (h:(pairs ns bs)[i]?=some kv):∃ n b,ns[i]?=some n/\bs[i]?=some b/\kv=(Sum.inl (n:Int),bV b):=by
 rw [pairs,yY] at h;obtain ⟨⟨n,b⟩,h1,h2⟩:=zt.mp h;obtain ⟨h3,h4⟩:=zP.mp h1;exact ⟨n,b,h3,h4,h2.symm⟩
theorem valP (t:Gt->Bool):∀ (gs:List Gt) (bs:List Bool) (j i:Nat) (g:Gt),bs.length=(numsOf t gs j).length->gs[i]?=some g ->
  valV (pairs (numsOf t gs j) bs) (Sum.inl ((j + i:Nat):Int))=if t g then some (bV (bs.getD ((gs.take i).countP t) false)) else none
 | [],bs,j,i,g,hl,h=>by simp at h
 | a :: gs,bs,j,i,g,hl,h=>by
  cases ha:t a with
  | true =>
   have e:numsOf t (a :: gs) j=j :: numsOf t gs (j + 1):=by simp [numsOf,ha]
   rw [e] at hl ⊢;cases bs with
   | nil=>simp at hl
   | cons b bs =>
    rw [ji];cases i with
    | zero =>
     simp at h;subst h;rw [cG (by simp)]
     simp [ha]
    | succ i =>
     rw [ck (by intro z; injection z with z; omega)]
     have:=valP t gs bs (j + 1) i g (by simpa using hl) (by simpa using h)
     rw [show j + (i + 1)=j + 1 + i by omega,this]
     simp [ha]
  | false =>
   have e:numsOf t (a :: gs) j=numsOf t gs (j + 1):=by simp [numsOf,ha]
   rw [e] at hl ⊢;cases i with
   | zero =>
    simp at h;subst h;rw [ha,yM (by simp)]
    have:∀ (ns:List Nat) (cs:List Bool),(∀ n∈ns,j + 1<=n)->valV (pairs ns cs) (Sum.inl ((j + 0:Nat):Int))=none:=by
     intro ns
     induction ns with
     | nil=>intro cs _; rfl
     | cons n ns ih =>
      intro cs hc;cases cs with
      | nil=>rfl
      | cons c cs =>
       have:=hc n (by simp)
       rw [ji,ck (by intro z; injection z with z; omega)]
       exact ih cs fun m hm=>hc m (by simp [hm])
    exact this _ _ fun n hn=>(fF hn).1
   | succ i =>
    have:=valP t gs bs (j + 1) i g hl (by simpa using h)
    rw [show j + (i + 1)=j + 1 + i by omega,this]
    simp [ha]
theorem gX (t:Gt->Bool) (gs:List Gt) (i:Nat):cnt t gs i=(gs.take i).countP t:=fH t _ 0
theorem wZ {a b:List (Key × V)}{k:Key}:valV (a++b) k=(valV a k).or (valV b k):=by
 simp only [valV,List.find?_append];cases List.find? (fun kv=>decide (kv.1=k)) a <;> rfl
def srcs (gs:List Gt) (row kept:List Bool):List (Key × V):=pairs (numsOf Gt.isIn gs 0) row++pairs (numsOf Gt.isKeep gs 0) kept
section
variable {gs:List Gt}{row kept:List Bool} (hr:row.length=(numsOf Gt.isIn gs 0).length) (hk:kept.length=(numsOf Gt.isKeep gs 0).length)
include hr hk in
theorem mT (h:gs[i]?=some g):valV (srcs gs row kept) (Sum.inl (i:Int))=if g.isIn then some (bV (row.getD (cnt Gt.isIn gs i) false)) else if g.isKeep then some (bV (kept.getD (cnt Gt.isKeep gs i) false)) else none:=by
 have a:=valP Gt.isIn gs row 0 i g hr h;have b:=valP Gt.isKeep gs kept 0 i g hk h;rw [Nat.zero_add] at a b;rw [srcs,wZ,a,b,gX,gX];cases g <;> rfl
include hr hk in
theorem w4:((srcs gs row kept).map (·.1)).Nodup:=by
 rw [srcs,Ap,jj hr,jj hk,<- Ap];have inj:∀ a b:Nat,(Sum.inl (a:Int):Key)=Sum.inl (b:Int)->a=b:=fun a b z=>by injection z with z; omega
 refine List.Pairwise.map (R:=(·≠·)) (S:=(·≠·)) _ (fun a b h z=>h (inj a b z)) ?_
 show (numsOf Gt.isIn gs 0++numsOf Gt.isKeep gs 0).Nodup;refine List.nodup_append.mpr ⟨jh _ _ _,jh _ _ _,fun a ha b hb z=>?_⟩
 subst z;obtain ⟨_,g,h1,h2⟩:=fF ha;obtain ⟨_,g',h3,h4⟩:=fF hb;rw [h1] at h3;cases h3;cases g <;> first | (cases h2; done) | (cases h4; done)
include hr hk in
theorem w6:(srcs gs row kept).length<=2 * gs.length:=by
 have a:=dI Gt.isIn gs 0;have b:=dI Gt.isKeep gs 0;rw [srcs,zk,dY hr,dY hk];omega
end
def later (B:List Bool):List Gt->List Bool
 | []=>[]
 | .keep _ a :: gs=>B.getD a false :: later B gs
 | _ :: gs=>later B gs
theorem gY (B:List Bool):∀ (gs:List Gt) (j:Nat),(later B gs).length=(numsOf Gt.isKeep gs j).length
 | [],_=>rfl
 | g :: gs,j=>by
  have:=gY B gs (j + 1);cases g <;> simp [later,numsOf,Gt.isKeep,this]
theorem jk (B:List Bool):∀ {gs:List Gt}{j i n:Nat},(numsOf Gt.isKeep gs j)[i]?=some n->j<=n/\∃ f a,gs[n - j]?=some (.keep f a)/\(later B gs)[i]?=some (B.getD a false)
 | [],j,i,n,h=>by simp [numsOf] at h
 | g :: gs,j,i,n,h=>by
  cases hk:g.isKeep with
  | false =>
   have e:numsOf Gt.isKeep (g :: gs) j=numsOf Gt.isKeep gs (j + 1):=by simp [numsOf,hk]
   rw [e] at h;obtain ⟨hj,f,a,h1,h2⟩:=jk B h;refine ⟨by omega,f,a,?_,?_⟩
   ·rw [show n - j=(n - (j + 1)) + 1 by omega]; simpa using h1
   ·cases g <;> first | (cases hk; done) | exact h2
  | true =>
   have e:numsOf Gt.isKeep (g :: gs) j=j :: numsOf Gt.isKeep gs (j + 1):=by simp [numsOf,hk]
   rw [e] at h;cases g <;> first | (cases hk; done) | skip
   rename_i f a;cases i with
   | zero =>
    simp at h;subst h;exact ⟨yP _,f,a,by simp,rfl⟩
   | succ i =>
    obtain ⟨hj,f',a',h1,h2⟩:=jk B (i:=i) (by simpa using h)
    refine ⟨by omega,f',a',?_,by simpa [later] using h2⟩
    rw [show n - j=(n - (j + 1)) + 1 by omega]; simpa using h1
theorem mU (B:List Bool) (h:(numsOf Gt.isKeep gs 0)[i]?=some n):∃ f a,gs[n]?=some (.keep f a)/\(later B gs)[i]?=some (B.getD a false):=by
 obtain ⟨_,f,a,h1,h2⟩:=jk B h;exact ⟨f,a,h1,h2⟩
theorem w9 (h:g.src=false) (row kept:List Bool) (a b:Nat) (bs:List Bool):evalG row kept a b bs g=evalG [] [] 0 0 bs g:=by
 cases g <;> first | rfl | cases h
theorem xb (g:Gt):g.feeds.length<=3:=by cases g <;> simp [Gt.feeds]
theorem xf:∀ g:Gt,∃ rs:List V,g.vs=.str g.wd :: rs
 | .inp=>⟨_,rfl⟩
 | .zero=>⟨_,rfl⟩
 | .one=>⟨_,rfl⟩
 | .keep _ _=>⟨_,rfl⟩
 | .not _=>⟨_,rfl⟩
 | .and _ _=>⟨_,rfl⟩
 | .or _ _=>⟨_,rfl⟩
 | .xor _ _=>⟨_,rfl⟩
 | .pick _ _ _=>⟨_,rfl⟩
def padd (bs:List Bool) (n:Nat):List V:=bs.map bV++List.replicate (n - bs.length) (.int 0)
theorem xg (h:bs.length<=n):(padd bs n).length=n:=by simp [padd]; omega
theorem xh{a:Nat} (h:a < bs.length):(padd bs n)[a]?=some (bV (bs.getD a false)):=by
 rw [padd,zb (by simpa using h),yY,yO h]
 simp [List.getD,yO h]
theorem mV {bs:List Bool}{n:Nat}{b:Bool} (h:bs.length < n):(padd bs n).set bs.length (bV b)=padd (bs++[b]) n:=by
 have e:n - bs.length=(n - (bs++[b]).length) + 1:=by simp; omega
 rw [padd,padd,e,Aq,List.set_append_right (h:=by simp)]
 simp
theorem xi (h:bs.length=n):padd bs n=bs.map bV:=by simp [padd,h]
theorem xj (n:Nat):padd [] n=List.replicate n (.int 0):=rfl
end

section
section
variable {P:Program}{w:World}{K:PySem.W.Frag}{mg:Str->Option Value}{base:Heap}{f:Addr}{fd:FuncData}{k:Nat}
theorem xk:Nd "ask_bits" := ∅
theorem xl:bootBuiltins "dict" = some (.type "dict"):=∅
theorem xm:("dict" : Str) ≠ "__name__" := ∅
theorem xn:Nd "dict" := ∅
theorem xo:Nd "gate_bits" := ∅
theorem DK.hp{a:Addr} (h:H a=some (.dK kvs)):DK P w K H a kvs:=Or.inl (Or.inl h)
local macro_rules | `(tactic| walk_at "user")=>`(tactic| (refine DK.hp ?_; walk_at "get"))
theorem gl40m1:AG (defScope (inClass (top 40) 1)) ["ask_bits", "len", "dict", "list", "zip", "enumerate", "gate_bits", "feeds_of"]:=⟨∅⟩
theorem av40m1:AF (defScope (inClass (top 40) 1)) ["self", "row", "bits", "sources", "number", "gate"]:=⟨∅⟩
def jl:Scope:=⟨.function,[(".0",.local),("feed",.local),("bits",.free)],false,false,[]⟩
theorem mW:CompOk jl (defScope (inClass (top 40) 1)) (["feed"]:List Str) (["self", "row", "bits", "sources", "number", "gate"]:List Str) [2] (["feed", "bits"]:List Str):=compOk rfl ∅ ∅ ∅ ∅ rfl ∅
theorem mX:AK (relab jl (defScope (inClass (top 40) 1))) ["feed"]:=⟨∅⟩
theorem mY:AV (relab jl (defScope (inClass (top 40) 1))) ["feed", "bits"]:=⟨∅⟩
def jm:Scope:=⟨.function,[(".0",.local),("number",.local),("bits",.free),("self",.free)],false,false,[]⟩
theorem mZ:CompOk jm (defScope (inClass (top 40) 1)) (["number"]:List Str) (["self", "row", "bits", "sources", "number", "gate"]:List Str) [2,0] (["number", "bits", "self"]:List Str):=compOk rfl ∅ ∅ ∅ ∅ rfl ∅
theorem m4:AK (relab jm (defScope (inClass (top 40) 1))) ["number"]:=⟨∅⟩
theorem jn:AV (relab jm (defScope (inClass (top 40) 1))) ["number", "bits", "self"]:=⟨∅⟩
def jo:Scope:=⟨.function,[(".0",.local),("out",.local),("bits",.free)],false,false,[]⟩
theorem m5:CompOk jo (defScope (inClass (top 40) 1)) (["out"]:List Str) (["self", "row", "bits", "sources", "number", "gate"]:List Str) [2] (["out", "bits"]:List Str):=compOk rfl ∅ ∅ ∅ ∅ rfl ∅
theorem m6:AK (relab jo (defScope (inClass (top 40) 1))) ["out"]:=⟨∅⟩
theorem m7:AV (relab jo (defScope (inClass (top 40) 1))) ["out", "bits"]:=⟨∅⟩
theorem SqX.sq{a:Addr}{xs:List V} (h:SqX kd H a xs):Sq kd K H a xs:=by
 cases kd with
 | list=>exact SqL.of h
 | tuple=>exact SqT.of h
theorem SqX.ch{H:Hp}{a:Addr}{xs:List V} (h:SqX kd H a xs) (c:Ch [] H H'):SqX kd H' a xs:=by
 cases kd with
 | list=>exact c.get h (by simp)
 | tuple=>exact c.get h (by simp)
theorem m8 {ts:List Addr}{ns:List Nat}{bs:List Bool} (e:∀ (i:Nat) (t:Addr) (x y:V),ts[i]?=some t->(ns.map nV)[i]?=some x->(bs.map bV)[i]?=some y->H t=some (.tup [x,y])) {i:Nat}{t:Addr} (ht:ts[i]?=some t) (hk:(pairs ns bs)[i]?=some kv):H t=some (.tup [kV kv.1,kv.2]):=by
 obtain ⟨n,b,h1,h2,rfl⟩:=wY hk;exact e i t (nV n) (bV b) ht (by rw [yY,h1]; rfl) (by rw [yY,h2]; rfl)
theorem xp {t1 t2:List Addr}{n1 n2:List Nat}{b1 b2:List Bool} (l1:t1.length=n1.length) (l2:b1.length=n1.length) (e1:∀ (i:Nat) (t:Addr) (x y:V),t1[i]?=some t->(n1.map nV)[i]?=some x->(b1.map bV)[i]?=some y->H t=some (.tup [x,y]))
  (e2:∀ (i:Nat) (t:Addr) (x y:V),t2[i]?=some t->(n2.map nV)[i]?=some x->(b2.map bV)[i]?=some y->H t=some (.tup [x,y])) (i:Nat) (t:Addr) (kv:Key × V) (ht:(t1++t2)[i]?=some t) (hk:(pairs n1 b1++pairs n2 b2)[i]?=some kv):H t=some (.tup [kV kv.1,kv.2]):=by
 by_cases h:i < t1.length
 ·rw [zb h] at ht
  rw [zb (by rw [dY l2]; omega)] at hk
  exact m8 e1 ht hk
 ·rw [zw (by omega)] at ht
  rw [zw (by rw [dY l2]; omega),dY l2,<- l1] at hk
  exact m8 e2 ht hk
theorem xq (hr:row.length=(numsOf Gt.isIn gs 0).length) (hk:kept.length=(numsOf Gt.isKeep gs 0).length) (h:gs[i]?=some g) (hs:g.src=true) (bs:List Bool):valV (srcs gs row kept) (Sum.inl (i:Int))=some (bV (evalG row kept (cnt Gt.isIn gs i) (cnt Gt.isKeep gs i) bs g)):=by
 rw [mT hr hk h];cases g <;> first | rfl | cases hs
theorem xr (hr:row.length=(numsOf Gt.isIn gs 0).length) (hk:kept.length=(numsOf Gt.isKeep gs 0).length){g:Gt} (h:gs[i]?=some g) (hs:g.src=false):valV (srcs gs row kept) (Sum.inl (i:Int))=none:=by
 rw [mT hr hk h];cases g <;> first | rfl | cases hs
def spBeat (C:Addr):Sp:=fun vs H Q _=>∃ (kd:SK) (y r gp op ip kp kl:Addr) (bits:V) (gs:List Gt) (xs:List V) (os:List Nat) (kept row:List Bool),vs=[.ref y,.ref r]/\PlAt C H y gp op ip kp kl bits gs xs os kept/\Oks gs/\gs.length<=1000 /\
 (∀ o∈os,o < gs.length)/\os.length<=1000/\SqX kd H r (row.map bV)/\row.length=(numsOf Gt.isIn gs 0).length /\
 ∀ res kl' bl' H',Ch [y] H H'->H res=none->H kl'=none->H bl'=none->res≠kl'->res≠bl'->H' bl'=some (.lst ((upto gs row kept gs.length).map bV)) ->
  H' res=some (.lst (os.map fun o=>bV ((upto gs row kept gs.length).getD o false)))->PlAt C H' y gp op ip kp kl' (.ref bl') gs xs os (later (upto gs row kept gs.length) gs)->Q (.ref res) H'
theorem scBeat:FnScope ["self", "row", "bits", "sources", "number", "gate"] ["self", "row"] (defScope (inClass (top 40) 1)):=⟨rfl,rfl,rfl,∅,rfl,∅,∅⟩
theorem xt (F:Fun K "beat" "NetPlayer.beat" (inClass (top 40) 1) f fd) (cl:Cls K C) (nG:NoAttr K C "gates") (nO:NoAttr K C "outs") (nI:NoAttr K C "ins") (nK:NoAttr K C "keeps") (nT:NoAttr K C "kept") (nB:NoAttr K C "bits")
  (Dask_bits:DefOk P w K mg base CX0 k "ask_bits" ["row", "length"] spBits) (Dgate_bits:DefOk P w K mg base CX0 k "gate_bits" ["word", "fed", "whole"] spTold) (Dfeeds_of:DefOk P w K mg base CX0 k "feeds_of" ["gate"] spFeeds)
  (z_len:mg "len" = none) (z_list:mg "list" = none) (z_dict:mg "dict" = none) (z_zip:mg "zip" = none) (z_enumerate:mg "enumerate" = none):FnOk P w K mg base CX0 (k + 1) f fd ["self", "row"] (spBeat C):=by
 have nd:=scBeat.nd;refine F.ok scBeat (fun vs H Q E h=>by obtain ⟨kd,y,r,gp,op,ip,kp,kl,bits,gs,xs,os,kept,row,rfl,_⟩:=h; rfl) (fun cdv A outer s H vs Q E hr h=>?_)
 obtain ⟨kd,y,r,gp,op,ip,kp,kl,bits,gs,xs,os,kept,row,rfl,⟨⟨dx,hy⟩,hg,hgs,ho,hi,hk,hl,hn⟩,hok,hlen,hos,hol,hrow,hrn,q⟩:=h;refine ⟨_,(Pr.h (aj (bM (av Dask_bits hr (gl40m1.g 0 rfl) pass0 (aa (qv av40m1 1 rfl) (aa (aF aL (gl40m1.g 1 rfl) z_len yX (aa (aT (qv av40m1 0 rfl) rfl) ab bH) aM aO) ab bb) ae) xk)) (aj (aE (i:=2) nd rfl (av40m1.l 2 rfl) (ar ij (bD (aa ag ab ax)) (aF aL (gl40m1.g 1 rfl) z_len yX (aa (aT (qv av40m1 0 rfl) rfl) ab bH) aM aO))) (aj (aE (i:=3) nd rfl (av40m1.l 3 rfl) (bQ (tK rfl) (gl40m1.g 2 rfl) z_dict xl (aa (ar dQ (kS .list kd rfl (gl40m1.g 3 rfl) z_list (gl40m1.g 4 rfl) z_zip (aa (aT (qv av40m1 0 rfl) rfl) (aa (qv av40m1 1 rfl) ab ae) bH)) (kS .list .list rfl (gl40m1.g 3 rfl) z_list (gl40m1.g 4 rfl) z_zip (aa (aT (qv av40m1 0 rfl) rfl) (aa (aT (qv av40m1 0 rfl) rfl) ab bH) bH))) ab bh) xm xn)) (aj (bB zm rfl (dU .tuple (gl40m1.g 5 rfl) z_enumerate (aa (aT (qv av40m1 0 rfl) rfl) ab bH)) (cg rfl (aX (aG (i:=4) nd rfl (av40m1.l 4 rfl)) (aX (aG (i:=5) nd rfl (av40m1.l 5 rfl)) bS))) (ai (aw (ay kH (qv av40m1 4 rfl) (qv av40m1 3 rfl) rfl) (ai (bX (iu (qv av40m1 3 rfl) (qv av40m1 4 rfl) (fun _ _=>rfl)) (cQ (qv av40m1 2 rfl) (qv av40m1 4 rfl) cz))) (ai (bX (av Dgate_bits hr (gl40m1.g 6 rfl) pass0 (aa (ak aH (qv av40m1 5 rfl) ag (fun _ _=>rfl)) (aa (cq rfl mW (cf (av Dfeeds_of hr (gl40m1.g 7 rfl) pass0 (aa (qv av40m1 5 rfl) ab ae) fA)) (fun _ _ _ _ _=>(aG (i:=0) mW.nd rfl (Or.inl (mX.k 0 rfl)) (Or.inr (mX.k 0 rfl)))) (fun _ _ _ _ _=>bY) (fun _ _ _ _ _=>(ak (dr K rfl) (qw mY 1 rfl) (qw mY 0 rfl) (fun _ _=>rfl)))) (aa ag ab ax) dE) aK) xo) (cQ (qv av40m1 2 rfl) (qv av40m1 4 rfl) cz)))))) (aj (cR (qv av40m1 0 rfl) (qv av40m1 2 rfl) rfl) (aj (cR (qv av40m1 0 rfl) (cq rfl mZ (cf (aT (qv av40m1 0 rfl) rfl)) (fun _ _ _ _ _=>(aG (i:=0) mZ.nd rfl (Or.inl (m4.k 0 rfl)) (Or.inr (m4.k 0 rfl)))) (fun _ _ _ _ _=>bY) (fun _ _ _ _ _=>(ak (dr K rfl) (qw jn 1 rfl) (ak (cV K rfl) (ak (cV K rfl) (kU K rfl (qw jn 2 rfl) rfl) (qw jn 0 rfl) (fun _ _=>rfl)) ag (fun _ _=>rfl)) (fun _ _=>rfl)))) rfl) (ai (au (cq rfl m5 (eY (aT (qv av40m1 0 rfl) rfl)) (fun _ _ _ _ _=>(aG (i:=0) m5.nd rfl (Or.inl (m6.k 0 rfl)) (Or.inr (m6.k 0 rfl)))) (fun _ _ _ _ _=>bY) (fun _ _ _ _ _=>(ak (dr K rfl) (qw m7 1 rfl) (qw m7 0 rfl) (fun _ _=>rfl))))))))))))),?_⟩
 (try dsimp only [cxOf])
 have f1:=@mL gp op ip kp (.ref kl) bits;have f2:=@wI gp op ip kp (.ref kl) bits;have f3:=@wJ gp op ip kp (.ref kl) bits;have f4:=@wK gp op ip kp (.ref kl) bits;have f5:=@wL gp op ip kp (.ref kl) bits;have hx:=hgs.len;have hni:=dI Gt.isIn gs 0;have hnk:=dI Gt.isKeep gs 0;walk_at "rd";rename_i H1 c1 p1 hp1 p2 hp2;have cA:Ch [] H (upd (upd H1 p1 (HO.lst [V.int 0])) p2 (HO.lst (List.replicate ((xs.length:Int)).toNat [V.int 0]).flatten)):=(c1.trans (Ch.new hp1 _)).trans (Ch.new hp2 _);refine ⟨(hrow.ch cA).sq,by simp [hrn],by rw [yS,zf]; omega,fun z1 t1 H2 c2 hz1 gz1 lt1 et1=>?_⟩
 have cB:=cA.trans c2;have gB:H2 p2=some (HO.lst (List.replicate ((xs.length:Int)).toNat [V.int 0]).flatten):=c2.get ah (by simp)
 walk_at "rd";rename_i z2 t2 H3 c3 hz2 gz2 lt2 et2 z3 hz3;rw [yS] at lt1 lt2;have c4:Ch [] H2 (upd H3 z3 (HO.lst (List.map V.ref t1++List.map V.ref t2))):=c3.trans (Ch.new hz3 _);refine ⟨(by rw [ah,<- Ap]:_=some (HO.lst (List.map V.ref (t1++t2)))),(by rw [zk,srcs,zk,dY hrn,dY hn,lt1,lt2]:(t1++t2).length=(srcs gs row kept).length),xp lt1 hrn (fun i t x y a b c=>c4.get (et1 i t x y a b c) (by simp)) (fun i t x y a b c=>aA hz3 (et2 i t x y a b c)),w4 hrn hn,?_,fun d hd=>?_⟩
 ·have:=w6 (gs:=gs) hrn hn
  rw [zf]; omega
 have cD:Ch [] H (upd (upd H3 z3 (HO.lst (List.map V.ref t1++List.map V.ref t2))) d (HO.dK (srcs gs row kept))):=(cB.trans c4).trans (Ch.new hd _);have gD:(upd (upd H3 z3 (HO.lst (List.map V.ref t1++List.map V.ref t2))) d (HO.dK (srcs gs row kept))) d=some (HO.dK (srcs gs row kept)):=ah;have gP:(upd (upd H3 z3 (HO.lst (List.map V.ref t1++List.map V.ref t2))) d (HO.dK (srcs gs row kept))) p2=some (HO.lst (padd [] gs.length)):=by
  rw [xj,<- hx,aA hd (c4.get gB (by simp)),fu]; simp
 have fP:H p2=none:=by
  have a:H1 p2=none:=freeN hp1 hp2;exact chFree c1 a
 generalize upd (upd H3 z3 (HO.lst (List.map V.ref t1++List.map V.ref t2))) d (HO.dK (srcs gs row kept))=H4 at cD gD gP ⊢;clear c4 hd et1 et2 lt1 lt2 gz1 gz2 hz1 hz2 hz3 c3 gB cB c2 cA hp1 hp2 c1;walk_at "rd";refine eZ (xs:=xs) (fun i σ H'=>(∃ u v,σ=[some (.ref y),some (.ref r),some (.ref p2),some (.ref d),u,v])/\Ch [] H H'/\H' d=some (HO.dK (srcs gs row kept))/\H' p2=some (.lst (padd (upto gs row kept i) gs.length))) ⟨⟨_,_,rfl⟩,cD,gD,gP⟩ ?_ ?_ ?_
 ·rintro i σ H' hi ⟨_,c,_⟩
  exact SqT.of (c.get hg (by simp))
 ·rintro i x σ H' T hx' ⟨⟨u,v,rfl⟩,c,gd,gp2⟩ hT
  have hi:i < gs.length:=by rw [<- hx]; exact (yR.mp hx').1
  obtain ⟨g,hgi⟩:∃ g,gs[i]?=some g:=⟨_,yO hi⟩;obtain ⟨p,ep,hp⟩:=hgs.at_ i g hgi;rw [hx'] at ep;cases ep;have hp1:H' p=some (.tup g.vs):=c.get hp (by simp)
  have lu:=eN (gs:=gs) (row:=row) (kept:=kept) (i:=i) (by omega)
  have us:=fD (row:=row) (kept:=kept) hgi;have lp:(padd (upto gs row kept i) gs.length).length=gs.length:=xg (by omega)
  have hN:ixN (padd (upto gs row kept i) gs.length).length (i:Int)=some i:=by rw [lp]; unfold ixN; rw [yN (by omega)]; simp; omega
  have nT2:p2≠T:=aY gp2 hT;have nd2:d≠p2:=aV gd gp2 (by intro z; cases z)
  cases hsrc:g.src with
  | true =>
   have hv:=xq hrn hn hgi hsrc (upto gs row kept i);walk_at "rd";refine ⟨DK.hp (aA hT gd),?_⟩;rw [hv];refine ⟨true,rfl,iteT ?_⟩;refine ⟨_,rfl,_,rfl,_,_,_,_,rfl,rfl,DK.hp (aA hT gd),hv,?_⟩;walk_at "rd";refine ⟨⟨_,_,rfl⟩,?_,aJ nd2 (aA hT gd),?_⟩
   ·exact Ch.own fP (c.trans (Ch.new hT _))
   ·rw [ah,us]
    have:=mV (n:=gs.length) (bs:=upto gs row kept i) (b:=evalG row kept (cnt Gt.isIn gs i) (cnt Gt.isKeep gs i) (upto gs row kept i) g) (by omega)
    rw [<- this,lu]
  | false =>
   have hv:=xr hrn hn hgi hsrc;walk_at "rd";refine ⟨DK.hp (aA hT gd),?_⟩;rw [hv];refine ⟨false,rfl,iteF ?_⟩;obtain ⟨rs,ev⟩:=xf g;have hp2:H' p=some (.tup (.str g.wd :: rs)):=by rw [<- ev]; exact hp1
   walk_at "rd";rename_i r1 H6 c6 hr1 gr1;have fo:=da (hok i g hgi) hsrc;have fl:=xb g;have g6:H6 p2=some (.lst (padd (upto gs row kept i) gs.length)):=c6.get (aA hT gp2) (by simp)
   refine dq (g.feeds.map nV) (fun j ys σ H''=>H''=H6/\ys=(g.feeds.take j).map (fun a=>bV ((upto gs row kept i).getD a false))/\∃ u,σ=[u,some (.ref p2)]) (by rw [yS,zf]; omega) ⟨rfl,rfl,_,rfl⟩ ?_ ?_ ?_
   ·rintro j ys σ H'' hj ⟨rfl,rfl,_⟩
    exact ⟨by simp; omega,SqL.of gr1⟩
   ·rintro j ys σ H'' x hx2 ⟨rfl,rfl,u2,rfl⟩
    obtain ⟨a,ha,rfl⟩:∃ a,g.feeds[j]?=some a/\x=nV a:=by
     rw [yY] at hx2;obtain ⟨z,h1,h2⟩:=zt.mp hx2;exact ⟨z,h1,h2.symm⟩
    have ha2:=fo a (zc ha);have hat:atI (padd (upto gs row kept i) gs.length) (a:Int)=some (bV ((upto gs row kept i).getD a false)):=bA (xh (by omega))
    unfold nV;walk_at "rd";refine ⟨?_,_,rfl⟩;rw [zx,ha]; simp
   ·rintro ys σ H'' ⟨rfl,rfl,_⟩
    intro D hD;refine ⟨D,g,upto gs row kept i,rfl,hsrc,?_,?_⟩
    ·rw [ah,yS,zu]
    have g7:upd H'' D (HO.lst ((g.feeds.take (g.feeds.map nV).length).map (fun a=>bV ((upto gs row kept i).getD a false)))) p2=some (.lst (padd (upto gs row kept i) gs.length)):=aA hD g6
    walk_at "rd";refine ⟨⟨_,_,rfl⟩,?_,aJ nd2 (aA hD (c6.get (aA hT gd) (by simp))),?_⟩
    ·exact Ch.own fP (((c.trans (Ch.new hT _)).trans c6).trans (Ch.new hD _))
    ·rw [ah,us,w9 hsrc row kept]
     have:=mV (n:=gs.length) (bs:=upto gs row kept i) (b:=evalG [] [] 0 0 (upto gs row kept i) g) (by omega)
     rw [<- this,lu]
 ·rintro σ H5 ⟨⟨u,v,rfl⟩,c5,_,gp5⟩
  have lu:=eN (gs:=gs) (row:=row) (kept:=kept) (yP gs.length);rw [hx,xi lu] at gp5;have hy5:=c5.get hy (by simp)
  have n2:p2≠y:=(aY hy fP).symm;walk_at "rd";rw [wN];generalize hB:upto gs row kept gs.length=B at *;have cE:Ch [y] H (upd H5 y (HO.ins C dx (fldsP gp op ip kp (V.ref kl) (V.ref p2)))):=(Ch.wk c5).trans Ch.put;have gE:upd H5 y (HO.ins C dx (fldsP gp op ip kp (V.ref kl) (V.ref p2))) y=some (HO.ins C dx (fldsP gp op ip kp (V.ref kl) (V.ref p2))):=ah;have bE:upd H5 y (HO.ins C dx (fldsP gp op ip kp (V.ref kl) (V.ref p2))) p2=some (HO.lst (B.map bV)):=aJ n2 gp5;have freeE:∀ b,upd H5 y (HO.ins C dx (fldsP gp op ip kp (V.ref kl) (V.ref p2))) b=none->H b=none:=fun b hb=>by
   by_cases e:b=y
   ·rw [e,ah] at hb; cases hb
   ·rw [aR e] at hb; exact chFree c5 hb
  generalize upd H5 y (HO.ins C dx (fldsP gp op ip kp (V.ref kl) (V.ref p2)))=H6 at cE gE bE freeE ⊢;have ng:gp≠y:=aV hg hy (by intro z; cases z)
  have nK:kp≠y:=aV hk hy (by intro z; cases z)
  have nO':op≠y:=aV ho hy (by intro z; cases z)
  have nI':ip≠y:=aV hi hy (by intro z; cases z)
  have g1:=@mL gp op ip kp (.ref kl) (.ref p2);have gE1:H6 gp=some (.tup xs):=cE.get hg (by simpa using ng)
  refine dq ((numsOf Gt.isKeep gs 0).map nV) (fun j ys σ H''=>H''=H6/\ys=((later B gs).take j).map bV/\∃ u,σ=[u,some (.ref p2),some (.ref y)]) (by rw [yS,zf]; omega) ⟨rfl,rfl,_,rfl⟩ ?_ ?_ ?_
  ·rintro j ys σ H'' hj ⟨rfl,rfl,_⟩
   exact ⟨by simp; omega,SqL.of (cE.get hk (by simpa using nK))⟩
  ·rintro j ys σ H'' x hx2 ⟨rfl,rfl,u2,rfl⟩
   obtain ⟨n,hn2,rfl⟩:∃ n,(numsOf Gt.isKeep gs 0)[j]?=some n/\x=nV n:=by
    rw [yY] at hx2;obtain ⟨z,h1,h2⟩:=zt.mp hx2;exact ⟨z,h1,h2.symm⟩
   obtain ⟨ff,a,hgn,hfi⟩:=mU B hn2;obtain ⟨h0,h1,h2⟩:0<=ff/\ff < 2/\a < gs.length:=hok n _ hgn;obtain ⟨p,ep,hp⟩:=hgs.at_ n _ hgn;have hp:H'' p=some (.tup [.str "keep",.int ff,.int a]):=cE.get hp (by simpa using aV hp hy (by intro z; cases z))
   have hat:atI xs (n:Int)=some (.ref p):=bA ep;have hat2:atI (B.map bV) (a:Int)=some (bV (B.getD a false)):=bA (by rw [yY,yO (by omega)]; simp [List.getD,yO (show a < B.length by omega)])
   unfold nV;walk_at "rd";refine ⟨?_,_,rfl⟩;rw [zx,hfi]; simp
  ·rintro ys σ H'' ⟨rfl,rfl,_⟩
   intro D hD;have tk:(later B gs).take ((numsOf Gt.isKeep gs 0).map nV).length=later B gs:=List.take_of_length_le (by rw [yS,gY B gs 0]; exact yP _)
   rw [tk];have yD:upd H'' D (.lst ((later B gs).map bV)) y=some (HO.ins C dx (fldsP gp op ip kp (V.ref kl) (V.ref p2))):=aA hD gE;have nDy:D≠y:=by
    intro e;rw [e,gE] at hD;cases hD
   have nDp:D≠p2:=(aY bE hD).symm;walk_at "rd";rw [wM];have cF:Ch [y] H (upd (upd H'' D (.lst ((later B gs).map bV))) y (HO.ins C dx (fldsP gp op ip kp (V.ref D) (V.ref p2)))):=(cE.trans (Ch.new hD _)).trans Ch.put;have gF:upd (upd H'' D (.lst ((later B gs).map bV))) y (HO.ins C dx (fldsP gp op ip kp (V.ref D) (V.ref p2))) y=some (HO.ins C dx (fldsP gp op ip kp (V.ref D) (V.ref p2))):=ah;have bF:upd (upd H'' D (.lst ((later B gs).map bV))) y (HO.ins C dx (fldsP gp op ip kp (V.ref D) (V.ref p2))) p2=some (HO.lst (B.map bV)):=aJ n2 (aA hD bE);have dF:upd (upd H'' D (.lst ((later B gs).map bV))) y (HO.ins C dx (fldsP gp op ip kp (V.ref D) (V.ref p2))) D=some (HO.lst ((later B gs).map bV)):=aJ nDy ah;have freeF:∀ b,upd (upd H'' D (.lst ((later B gs).map bV))) y (HO.ins C dx (fldsP gp op ip kp (V.ref D) (V.ref p2))) b=none->H b=none:=fun b hb=>by
    by_cases e:b=y
    ·rw [e,ah] at hb; cases hb
    ·rw [aR e] at hb
     by_cases e2:b=D
     ·rw [e2]; exact freeE D hD
     ·rw [aR e2] at hb; exact freeE b hb
   generalize upd (upd H'' D (.lst ((later B gs).map bV))) y (HO.ins C dx (fldsP gp op ip kp (V.ref D) (V.ref p2)))=H7 at cF gF bF dF freeF ⊢;refine gm (os.map nV) (fun j ys σ H8=>H8=H7/\ys=(os.take j).map (fun o=>bV (B.getD o false))/\∃ u,σ=[u,some (.ref p2)]) (by rw [yS,zf]; omega) ⟨rfl,rfl,_,rfl⟩ ?_ ?_ ?_
   ·rintro j ys σ H8 hj ⟨rfl,rfl,_⟩
    exact ⟨by simp; omega,SqT.of (cF.get ho (by simpa using nO'))⟩
   ·rintro j ys σ H8 x hx2 ⟨rfl,rfl,u2,rfl⟩
    obtain ⟨o,ho2,rfl⟩:∃ n,os[j]?=some n/\x=nV n:=by
     rw [yY] at hx2;obtain ⟨z,h1,h2⟩:=zt.mp hx2;exact ⟨z,h1,h2.symm⟩
    have ol:=hos o (zc ho2);have hat2:atI (B.map bV) (o:Int)=some (bV (B.getD o false)):=bA (by rw [yY,yO (by omega)]; simp [List.getD,yO (show o < B.length by omega)])
    unfold nV;walk_at "rd";refine ⟨?_,_,rfl⟩;rw [zx,ho2]; simp
   ·rintro ys σ H8 ⟨rfl,rfl,_⟩
    intro R hR;have nRD:R≠D:=(aY dF hR).symm;have nRp:R≠p2:=(aY bF hR).symm;refine q R D p2 _ (cF.trans (Ch.new hR _)) (freeF R hR) (freeE D hD) fP nRD nRp (aA hR bF) ?_ ?_
    ·rw [ah,yS,zu]
    ·exact ⟨⟨dx,aA hR gF⟩,aA hR (cF.get hg (by simpa using ng)),hgs.tu (Tu.ch (cF.trans (Ch.new hR _)) hy (fun xs z=>by cases z)),aA hR (cF.get ho (by simpa using nO')),aA hR (cF.get hi (by simpa using nI')),aA hR (cF.get hk (by simpa using nK)),aA hR dF,gY B gs 0⟩
end
end

section
section
variable {P:Program}{w:World}{K:PySem.W.Frag}{mg:Str->Option Value}{base:Heap}{f:Addr}{fd:FuncData}{k:Nat}
theorem xu (z:Int):V.int (z % 2)=bV (decide (z % 2=1)):=by
 have:z % 2=0\/z % 2=1:=by omega
 rcases this with h | h <;> rw [h] <;> rfl
theorem av57:AF (defScope (top 57)) ["_law_script", "_law_at", "_law_many", "_law_m", "_law_bits_here", "_law_k"]:=⟨∅⟩
theorem gl57:AG (defScope (top 57)) ["_law_next", "range"]:=⟨∅⟩
structure LB (H H':Hp) (b r:Addr) (i:Nat) (d c m:Int):Prop where
 m0:0<=m
 m1:m < 2147483629
 ch:Ch [b] H H'
 ex:∃ (bs:List Bool) (c':Int),bs.length=i/\H' r=some (.lst (bs.map bV))/\H' b=some (.lst [.int c'])/\c < c'/\c'<=c + 1 + d
def spLBits (K:PySem.W.Frag):Sp:=fun vs H Q _=>∃ (a b:Addr) (ns:List Int) (c n':Int) (n:Nat),vs=[.ref a,.ref b,.int n']/\n'=(n:Int)/\n<=1000/\Scr K H a ns/\H b=some (.lst [.int c])/\0<=c/\c < 2 ^ 50 /\
 ∀ (r:Addr) (bs:List Bool) (c':Int) (H':Hp),Ch [b] H H'->H r=none->bs.length=n->H' r=some (.lst (bs.map bV))->H' b=some (.lst [.int c'])->c < c'->c'<=c + 1 + n->Q (.ref r) H'
theorem scLBits:FnScope ["_law_script", "_law_at", "_law_many", "_law_m", "_law_bits_here", "_law_k"] ["_law_script", "_law_at", "_law_many"] (defScope (top 57)):=⟨rfl,rfl,rfl,∅,rfl,∅,∅⟩
theorem xw (F:Fun K "_law_bits" "_law_bits" (top 57) f fd) (D_law_next:DefOk P w K mg base CX0 k "_law_next" ["_law_script", "_law_at"] (spNext K)) (z_range:mg "range" = none):FnOk P w K mg base CX0 (k + 1) f fd ["_law_script", "_law_at", "_law_many"] (spLBits K):=by
 have nd:=scLBits.nd;refine F.ok scLBits (fun vs H Q E h=>by obtain ⟨a,b,ns,c,n',n,rfl,_⟩:=h; rfl) (fun cdv A outer s H vs Q E hr h=>?_)
 obtain ⟨a,b,ns,c,n',n,rfl,rfl,hn,hS,hb,h0,h1,q⟩:=h;refine ⟨_,(Pr.h (aj (aE (i:=3) nd rfl (av57.l 3 rfl) (av D_law_next hr (gl57.g 0 rfl) pass0 (aa (qv av57 0 rfl) (aa (qv av57 1 rfl) ab ae) ae) cj)) (aj (aE (i:=4) nd rfl (av57.l 4 rfl) (bD ab)) (aj (bB zm rfl (cU (gl57.g 1 rfl) z_range (aa (qv av57 2 rfl) ab ae)) (aG (i:=5) nd rfl (av57.l 5 rfl)) (bG (aw (ay aB (ar aQ (qv av57 5 rfl) ag) ag (nomark _)) (ai (aE (i:=3) nd rfl (av57.l 3 rfl) (av D_law_next hr (gl57.g 0 rfl) pass0 (aa (qv av57 0 rfl) (aa (qv av57 1 rfl) ab ae) ae) cj))) az) (aj (bM (cm zM zW zX cC (qv av57 4 rfl) (aa (ar aQ (qv av57 3 rfl) ag) ab bh))) (ai (aE (i:=3) nd rfl (av57.l 3 rfl) (ar aZ (qv av57 3 rfl) ag)))))) (ai (au (qv av57 4 rfl))))))),?_⟩
 (try dsimp only [cxOf])
 walk_at "rd";rename_i m0 H1 m00 m01 c1 b1 r hr1;have nbr:b≠r:=aY b1 hr1;have fr:H r=none:=by
  cases z:H r with
  | none=>rfl
  | some o=>rw [c1.get z (by simpa using yV nbr)] at hr1; cases hr1
 refine dj (fun i σ H'=>∃ m u,σ=[some (.ref a),some (.ref b),some (.int (n:Int)),some (.int m),some (.ref r),u]/\LB H H' b r i i c m) ⟨m0,_,rfl,m00,m01,c1.trans (Ch.new hr1 _),[],c + 1,rfl,ah,aA hr1 b1,by omega,by omega⟩ ?_ ?_
 ·rintro i σ H' hi ⟨m,u,rfl,l⟩
  have hi2:i < n:=by simpa using hi
  obtain ⟨m0',m1',ch,bs,c',hl,gr,gb,e1,e2⟩:=id l;walk_at "rd";refine bC (fun σ H''=>∃ m',σ=[some (.ref a),some (.ref b),some (.int (n:Int)),some (.int m'),some (.ref r),some (.int (0 + (i:Int)))]/\LB H H'' b r i (i + 1) c m') ?_ ?_
  ·walk_at "rd"
   refine ite2 (fun hc=>?_) (fun hc=>?_)
   ·have hS':Scr K H' a ns:=hS.ch hb ch
    have hc0:0<=c':=by omega
    have hc1:c' < 2 ^ 60:=by omega
    walk_at "rd";rename_i m2 H2 k0 k1 c2 b2;exact ⟨k0,k1,ch.trans c2,bs,_,hl,c2.get gr (by simpa using yV nbr),b2,by omega,by omega⟩
   ·walk_at "rd"
    exact ⟨m0',m1',ch,bs,c',hl,gr,gb,e1,by omega⟩
  ·rintro σ H'' ⟨m',rfl,k0,k1,ch2,bs2,c'',hl2,gr2,gb2,f1,f2⟩
   have sz:bs2.length < 1000:=by omega
   walk_at "rd";refine ⟨by omega,by omega,Ch.own fr ch2,bs2++[decide (m' % 2=1)],c'',by simp [hl2],?_,aJ nbr gb2,by omega,by omega⟩
   have eb:=xu m';rw [ah]; (try dsimp only); rw [eb]; simp
 ·rintro σ H' ⟨m,u,rfl,m0',m1',ch,bs,c',hl,gr,gb,e1,e2⟩
  walk_at "rd";exact q r bs c' _ ch fr (by simpa using hl) gr gb e1 (by simpa using e2)
end
end

section
local macro_rules | `(tactic| walk_at "user")=>`(tactic| first
 | (apply GA.ch; (focus with_reducible assumption); (focus walk_at "ch"))
 | (apply NetAt.ch; (focus with_reducible assumption); (focus walk_at "ch"))
 | exact Gt.vs_sca _)
structure Bxy (Pd:Prop):Prop where
 h:Pd
theorem gZ {α β:Type}{xs:List α}{ys:List β}{f:α × β->Bool} (h:∀ (i:Nat) (x:α) (y:β),xs[i]?=some x->ys[i]?=some y->f (x,y)=true):(xs.zip ys).all f=true:=by
 rw [AU];intro p hp;obtain ⟨i,hi⟩:=Av hp;obtain ⟨x,y⟩:=p;obtain ⟨h1,h2⟩:=zP.mp hi;exact h i x y h1 h2
theorem jq {α β:Type}{xs:List α}{ys:List β}{f:α × β->Bool}{i:Nat}{x:α}{y:β} (h1:xs[i]?=some x) (h2:ys[i]?=some y) (h:f (x,y)=false):(xs.zip ys).all f=false:=by
 rw [List.all_eq_false];exact ⟨(x,y),zc (zP.mpr ⟨h1,h2⟩),by rw [h]; decide⟩
def Fine {α β:Type} (xs:List α) (ys:List β) (f:α × β->Bool) (i:Nat):Prop:=Bxy (∀ j x y,j < i->xs[j]?=some x->ys[j]?=some y->f (x,y)=true)
section
variable {α β:Type}{xs:List α}{ys:List β}{f:α × β->Bool}{i:Nat}{x:α}{y:β}
theorem Fine.z:Fine xs ys f 0:=⟨fun j x y h=>absurd h (Nat.not_lt_zero _)⟩
theorem Fine.s (h:Fine xs ys f i) (e1:xs[i]?=some x) (e2:ys[i]?=some y) (e:f (x,y)=true):Fine xs ys f (i + 1):=⟨fun j x' y' hj e3 e4=>by
 by_cases hj':j < i
 ·exact h.h j x' y' hj' e3 e4
 ·have:j=i:=by omega
  subst this;rw [e1] at e3;rw [e2] at e4;cases e3;cases e4;exact e⟩
theorem Fine.d {n:Nat} (h:Fine xs ys f n) (l:xs.length<=n):(xs.zip ys).all f=true:=gZ fun i x y e1 e2=>h.h i x y (by have:=(yR.mp e1).1; omega) e1 e2
end
def okI (prs:List (Nat × Str)) (p:Nat × Nat):Bool:=decide (prs[p.1]?=some (p.2,Str.ofString "in"))
def ihB (net sg:List Gt) (prs:List (Nat × Str)):Bool:=decide ((numsOf Gt.isIn net 0).length=(numsOf Gt.isIn sg 0).length) && ((numsOf Gt.isIn net 0).zip (numsOf Gt.isIn sg 0)).all (okI prs)
def okO (prs:List (Nat × Str)) (p:Nat × Nat):Bool:=decide (rho prs p.1=p.2)
def ohB (os so:List Nat) (prs:List (Nat × Str)):Bool:=decide (os.length=so.length) && (os.zip so).all (okO prs)
def okG (al:List Gt) (prs:List (Nat × Str)) (p:Gt × (Nat × Str)):Bool:=p.1.isIn || phB al (rho prs) p.2.1 p.2.2 p.1
def ghB (net al:List Gt) (prs:List (Nat × Str)):Bool:=(net.zip prs).all (okG al prs)
theorem m9 (t:Gt->Bool):∀ (gs:List Gt) (i x:Nat),x∈numsOf t gs i->x < i + gs.length
 | [],_,_,h=>by simp [numsOf] at h
 | g :: gs,i,x,h=>by
  have ih:=m9 t gs (i + 1) x;rw [zK];unfold numsOf at h
  split at h
  ·rcases yZ.mp h with z | z
   ·omega
   ·have:=ih z; omega
  ·have:=ih h; omega
theorem g8{o:Nat}{p:Nat × Str} (e:prs[o]?=some p):rho prs o=p.1:=by
 unfold rho;rw [zi,e]; rfl
theorem nh (g:Gt):g.feeds.length<=3:=by cases g <;> simp [Gt.feeds]
def prF (prs:List (Nat × Str)) (fs:List Nat):List (Nat × Str):=fs.map fun a=>prs.getD a (0,Str.empty)
theorem xx (prs:List (Nat × Str)) (fs:List Nat):((prF prs fs).map fun p=>nV p.1)=fs.map fun a=>nV (rho prs a):=by
 unfold prF rho;rw [List.map_map]; rfl
theorem xA{a:Nat}{p:Nat × Str} (h:fs[j]?=some a) (e:prs[a]?=some p):prF prs (fs.take (j + 1))=prF prs (fs.take j)++[p]:=by
 unfold prF;rw [zx,h];simp [zi,e]
section
variable {P:Program}{w:World}{K:PySem.W.Frag}{mg:Str->Option Value}{base:Heap}{f:Addr}{fd:FuncData}{k:Nat}
theorem xB:Nd "pair_holds" := ∅
theorem av33:AF (defScope (top 33)) ["net", "small", "pairs", "ins", "small_ins", "number", "small_number"]:=⟨∅⟩
theorem gl33:AG (defScope (top 33)) ["ins_of", "len", "zip", "tuple"]:=⟨∅⟩
def spIH (CN:Addr):Sp:=fun vs H Q _=>∃ (nt gp op st gp2 op2 ql:Addr) (net sg:List Gt) (xs xs2:List V) (os so:List Nat) (prs:List (Nat × Str)) (qs:List V),vs=[.ref nt,.ref st,.ref ql]/\NetAt CN H nt gp op net xs os/\NetAt CN H st gp2 op2 sg xs2 so/\net.length<=1000/\sg.length<=1000/\H ql=some (.lst qs)/\Prs H prs qs/\prs.length=net.length/\∀ (H':Hp),Ch [] H H'->Q (.bl (ihB net sg prs)) H'
theorem scIH:FnScope ["net", "small", "pairs", "ins", "small_ins", "number", "small_number"] ["net", "small", "pairs"] (defScope (top 33)):=⟨rfl,rfl,rfl,∅,rfl,∅,∅⟩
theorem xC (F:Fun K "ins_hold" "ins_hold" (top 33) f fd) (Dins_of:DefOk P w K mg base CX0 k "ins_of" ["net"] (spIns CN)) (z_len:mg "len" = none) (z_zip:mg "zip" = none) (z_tuple:mg "tuple" = none):FnOk P w K mg base CX0 (k + 1) f fd ["net", "small", "pairs"] (spIH CN):=by
 have nd:=scIH.nd;refine F.ok scIH (fun vs H Q E h=>by obtain ⟨nt,gp,op,st,gp2,op2,ql,net,sg,xs,xs2,os,so,prs,qs,rfl,_⟩:=h; rfl) (fun cdv A outer s0 H vs Q E hr h=>?_)
 obtain ⟨nt,gp,op,st,gp2,op2,ql,net,sg,xs,xs2,os,so,prs,qs,rfl,na,na2,l1,l2,hql,pp,lp,q⟩:=h;refine ⟨_,(Pr.h (aj (aE (i:=3) nd rfl (av33.l 3 rfl) (av Dins_of hr (gl33.g 0 rfl) pass0 (aa (qv av33 0 rfl) ab ae) je)) (aj (aE (i:=4) nd rfl (av33.l 4 rfl) (av Dins_of hr (gl33.g 0 rfl) pass0 (aa (qv av33 1 rfl) ab ae) je)) (aj (aw (ay ed (aF aL (gl33.g 1 rfl) z_len yX (aa (qv av33 3 rfl) ab ae) aM aO) (aF aL (gl33.g 1 rfl) z_len yX (aa (qv av33 4 rfl) ab ae) aM aO) (nomark _)) (ai (au bz)) az) (aj (bB zm rfl (eE .list .list (gl33.g 2 rfl) z_zip (aa (qv av33 3 rfl) (aa (qv av33 4 rfl) ab ae) ae)) (cg rfl (aX (aG (i:=5) nd rfl (av33.l 5 rfl)) (aX (aG (i:=6) nd rfl (av33.l 6 rfl)) bS))) (ai (aw (br (bK (ay eR (ak aC (qv av33 2 rfl) (qv av33 5 rfl) (fun _ _=>rfl)) cH (nomark _)) (bR (ay (tW hr.units) (bQ dP (gl33.g 3 rfl) z_tuple dt (aa (ak aC (qv av33 2 rfl) (qv av33 5 rfl) (fun _ _=>rfl)) ab aK) du dz) (aD (aa (qv av33 6 rfl) (aa aq ab ax) ae)) (nomark _))))) (ai (au bz)) az))) (ai (au bz))))))),?_⟩
 (try dsimp only [cxOf])
 walk_at "rd";rename_i r1 H1 c1 f1 e1 r2 H2 c2 f2 e2;unfold ihB at q
 by_cases le:(numsOf Gt.isIn net 0).length=(numsOf Gt.isIn sg 0).length
 rotate_left
 ·rw [zv le,AL] at q
  refine ite2 (fun _=>q _ (c1.trans c2)) (fun h=>absurd (show (numsOf Gt.isIn net 0).length=(numsOf Gt.isIn sg 0).length by simp at h; omega) le)
 rw [y8 le,Bool.true_and] at q;refine iteNn (by rw [yS,yS,le]) ?_
 walk_at "rd";have c12:=c1.trans c2;have e12:=c2.get e1 (by simp)
 refine eC (xs:=(numsOf Gt.isIn net 0).map nV) (ys:=(numsOf Gt.isIn sg 0).map nV) (fun i σ H'=>Ch [] H H'/\Ch [] H2 H'/\Fine (numsOf Gt.isIn net 0) (numsOf Gt.isIn sg 0) (okI prs) i/\∃ u v,σ=[some (.ref nt),some (.ref st),some (.ref ql),some (.ref r1),some (.ref r2),u,v]) ⟨c12,Ch.refl _ _,.z,_,_,rfl⟩ ?_ ?_ ?_
 ·rintro i σ H' hi ⟨c,d,_⟩
  exact ⟨SqL.of (d.get e12 (by simp)),SqL.of (d.get e2 (by simp))⟩
 ·rintro i x y σ H' T hx hy ⟨c,d,bx,u,v,rfl⟩ hT
  rw [yY] at hx hy;obtain ⟨n,en,rfl⟩:=zt.mp hx;obtain ⟨m,em,rfl⟩:=zt.mp hy;have ln:n < prs.length:=by
   have:=m9 _ _ _ _ (zc en);omega
  obtain ⟨p,ep⟩:∃ p,prs[n]?=some p:=⟨_,yO ln⟩;obtain ⟨a,ea,ha⟩:=pp.at_ n _ ep;have eo:okI prs (n,m)=decide ([V.int (p.1:Int),V.str p.2]=[V.int (m:Int),V.str (Str.ofString "in")]):=by
   unfold okI;rw [ep];refine decide_eq_decide.mpr ?_;obtain ⟨p1,p2⟩:=p;simp;intro _;omega
  have sc0:ScaL [V.int (p.1:Int),V.str p.2]:=by
   refine ⟨fun z hz=>?_⟩
   simp at hz;rcases hz with rfl | rfl
   ·exact .inl ⟨_,rfl⟩
   ·exact .inr ⟨_,rfl⟩
  have bad:okI prs (n,m)=false->∀ H',Ch [] H H'->Q (.bl false) H':=fun z H' c=>by
   have:=q H' c
   rwa [jq en em z] at this
  have good:=fun z=>bx.s en em z
  have at1:=bA ea;have cT:=Ch.new (W:=[]) hT (.tup [nV n,nV m]);have hT1:upd H' T (.tup [nV n,nV m]) T=_:=ah;have cc:=c.trans cT;have dd:=d.trans cT;have ha1:=cc.get ha (by simp)
  have hql1:=cc.get hql (by simp)
  have sc1:ScaL [V.int (m:Int),V.str (Str.ofString "in")]:=by
   refine ⟨fun z hz=>?_⟩
   simp at hz;rcases hz with rfl | rfl
   ·exact .inl ⟨_,rfl⟩
   ·exact .inr ⟨_,rfl⟩
  unfold nV at *;obtain ⟨HT,eHT⟩:∃ HT,HT=upd H' T (.tup [V.int (n:Int),V.int (m:Int)]):=⟨_,rfl⟩;rw [<- eHT] at ha1 hql1 hT1 cc dd ⊢;walk_at "rd";rename_i T2 hT2;have cN:=cc.trans (Ch.new hT2 (.tup [V.int (m:Int),V.str (Str.ofString "in")]));rw [<- eo];cases ev:okI prs (n,m) with
  | false=>exact iteT (bad ev _ cN)
  | true=>exact iteF ⟨cN,dd.trans (Ch.new hT2 _),good ev,_,_,rfl⟩
 ·rintro σ H' ⟨c,d,bx,u,v,rfl⟩
  rw [bx.d (by rw [yS,yS,<- le,Nat.min_self]; exact yP _)] at q
  walk_at "rd";exact q _ c
theorem gl34:AG (defScope (top 34)) ["len", "zip"]:=⟨∅⟩
theorem av34:AF (defScope (top 34)) ["net", "small", "pairs", "out", "small_out"]:=⟨∅⟩
def spOH (CN:Addr):Sp:=fun vs H Q _=>∃ (nt gp op st gp2 op2 ql:Addr) (net sg:List Gt) (xs xs2:List V) (os so:List Nat) (prs:List (Nat × Str)) (qs:List V),vs=[.ref nt,.ref st,.ref ql]/\NetAt CN H nt gp op net xs os/\NetAt CN H st gp2 op2 sg xs2 so/\H ql=some (.lst qs)/\Prs H prs qs/\(∀ o∈os,o < prs.length)/\∀ (H':Hp),Ch [] H H'->Q (.bl (ohB os so prs)) H'
theorem scOH:FnScope ["net", "small", "pairs", "out", "small_out"] ["net", "small", "pairs"] (defScope (top 34)):=⟨rfl,rfl,rfl,∅,rfl,∅,∅⟩
theorem xD (F:Fun K "outs_hold" "outs_hold" (top 34) f fd) (cl:Cls K CN) (nO:NoAttr K CN "outs") (z_len:mg "len" = none) (z_zip:mg "zip" = none):FnOk P w K mg base CX0 (k + 1) f fd ["net", "small", "pairs"] (spOH CN):=by
 have nd:=scOH.nd;refine F.ok scOH (fun vs H Q E h=>by obtain ⟨nt,gp,op,st,gp2,op2,ql,net,sg,xs,xs2,os,so,prs,qs,rfl,_⟩:=h; rfl) (fun cdv A outer s0 H vs Q E hr h=>?_)
 obtain ⟨nt,gp,op,st,gp2,op2,ql,net,sg,xs,xs2,os,so,prs,qs,rfl,na,na2,hql,pp,lo,q⟩:=h;refine ⟨_,(Pr.h (aj (aw (ay ed (aF aL (gl34.g 0 rfl) z_len yX (aa (aT (qv av34 0 rfl) rfl) ab bH) aM aO) (aF aL (gl34.g 0 rfl) z_len yX (aa (aT (qv av34 1 rfl) rfl) ab bH) aM aO) (nomark _)) (ai (au bz)) az) (aj (bB zm rfl (eE .tuple .tuple (gl34.g 1 rfl) z_zip (aa (aT (qv av34 0 rfl) rfl) (aa (aT (qv av34 1 rfl) rfl) ab bH) bH)) (cg rfl (aX (aG (i:=3) nd rfl (av34.l 3 rfl)) (aX (aG (i:=4) nd rfl (av34.l 4 rfl)) bS))) (ai (aw (br (bK (ay eR (ak aC (qv av34 2 rfl) (qv av34 3 rfl) (fun _ _=>rfl)) cH (nomark _)) (bR (ay ed (ak aH (ak aC (qv av34 2 rfl) (qv av34 3 rfl) (fun _ _=>rfl)) ag (fun _ _=>rfl)) (qv av34 4 rfl) (nomark _))))) (ai (au bz)) az))) (ai (au bz))))),?_⟩
 (try dsimp only [cxOf])
 obtain ⟨⟨d1,ob1⟩,_,_,ot1⟩:=id na;obtain ⟨⟨d2,ob2⟩,_,_,ot2⟩:=id na2;have fo1:=fq gp op;have fo2:=fq gp2 op2;walk_at "rd";unfold ohB at q
 by_cases le:os.length=so.length
 rotate_left
 ·rw [zv le,AL] at q
  refine ite2 (fun _=>q _ (Ch.refl _ _)) (fun h=>absurd (show os.length=so.length by simp at h; omega) le)
 rw [y8 le,Bool.true_and] at q;refine iteNn (by rw [yS,yS,le]) ?_
 walk_at "rd";refine eC (xs:=os.map nV) (ys:=so.map nV) (fun i σ H'=>Ch [] H H'/\Fine os so (okO prs) i/\∃ u v,σ=[some (.ref nt),some (.ref st),some (.ref ql),u,v]) ⟨Ch.refl _ _,.z,_,_,rfl⟩ ?_ ?_ ?_
 ·rintro i σ H' hi ⟨c,_⟩
  exact ⟨SqT.of (c.get ot1 (by simp)),SqT.of (c.get ot2 (by simp))⟩
 ·rintro i x y σ H' T hx hy ⟨c,bx,u,v,rfl⟩ hT
  rw [yY] at hx hy;obtain ⟨n,en,rfl⟩:=zt.mp hx;obtain ⟨m,em,rfl⟩:=zt.mp hy;obtain ⟨p,ep⟩:∃ p,prs[n]?=some p:=⟨_,yO (lo n (zc en))⟩;obtain ⟨a,ea,ha⟩:=pp.at_ n _ ep;have eo:okO prs (n,m)=decide (p.1=m):=by unfold okO; rw [g8 ep]
  have bad:okO prs (n,m)=false->∀ H',Ch [] H H'->Q (.bl false) H':=fun z H' c=>by
   have:=q H' c
   rwa [jq en em z] at this
  have good:=fun z=>bx.s en em z
  have at1:=bA ea;have cT:=Ch.new (W:=[]) hT (.tup [nV n,nV m]);have hT1:upd H' T (.tup [nV n,nV m]) T=_:=ah;have cc:=c.trans cT;have ha1:=cc.get ha (by simp)
  have hql1:=cc.get hql (by simp)
  unfold nV at *;obtain ⟨HT,eHT⟩:∃ HT,HT=upd H' T (.tup [V.int (n:Int),V.int (m:Int)]):=⟨_,rfl⟩;rw [<- eHT] at ha1 hql1 hT1 cc ⊢;walk_at "rd";refine ite2 (fun h=>bad ?_ _ cc) (fun h=>⟨cc,good ?_,_,_,rfl⟩)
  ·rw [eo]; exact zv fun z=>by rw [z] at h; simp at h
  ·rw [eo]; exact y8 (by simp at h; omega)
 ·rintro σ H' ⟨c,bx,u,v,rfl⟩
  rw [bx.d (by rw [yS,yS,<- le,Nat.min_self]; exact yP _)] at q
  walk_at "rd";exact q _ c
theorem gl35:AG (defScope (top 35)) ["zip", "feeds_of", "pair_holds"]:=⟨∅⟩
theorem av35:AF (defScope (top 35)) ["net", "gates", "pairs", "gate", "pair", "feed_pairs"]:=⟨∅⟩
def jr:Scope:=⟨.function,[(".0",.local),("feed",.local),("pairs",.free)],false,false,[]⟩
theorem nu:CompOk jr (defScope (top 35)) (["feed"]:List Str) (["net", "gates", "pairs", "gate", "pair", "feed_pairs"]:List Str) [2] (["feed", "pairs"]:List Str):=compOk rfl ∅ ∅ ∅ ∅ rfl ∅
theorem nv:AK (relab jr (defScope (top 35))) ["feed"]:=⟨∅⟩
theorem nz:AV (relab jr (defScope (top 35))) ["feed", "pairs"]:=⟨∅⟩
def js:Scope:=⟨.function,[(".0",.local),("feed_pair",.local)],false,false,[]⟩
theorem nA:CompOk js (defScope (top 35)) (["feed_pair"]:List Str) (["net", "gates", "pairs", "gate", "pair", "feed_pairs"]:List Str) [] (["feed_pair"]:List Str):=compOk rfl ∅ ∅ ∅ ∅ rfl ∅
theorem nC:AK (relab js (defScope (top 35))) ["feed_pair"]:=⟨∅⟩
theorem xE:AV (relab js (defScope (top 35))) ["feed_pair"]:=⟨∅⟩
def spGH (CN:Addr):Sp:=fun vs H Q _=>∃ (nt gp op gl ql:Addr) (net al:List Gt) (xs:List V) (os:List Nat) (prs:List (Nat × Str)) (qs:List V),vs=[.ref nt,.ref gl,.ref ql]/\NetAt CN H nt gp op net xs os/\Oks net/\GA H gl al/\H ql=some (.lst qs)/\Prs H prs qs /\
 prs.length=net.length/\(∀ p∈prs,p.1 < al.length)/\∀ (H':Hp),Ch [] H H'->Q (.bl (ghB net al prs)) H'
theorem scGH:FnScope ["net", "gates", "pairs", "gate", "pair", "feed_pairs"] ["net", "gates", "pairs"] (defScope (top 35)):=⟨rfl,rfl,rfl,∅,rfl,∅,∅⟩
theorem xF (F:Fun K "gates_hold" "gates_hold" (top 35) f fd) (cl:Cls K CN) (nG:NoAttr K CN "gates") (Dfeeds_of:DefOk P w K mg base CX0 k "feeds_of" ["gate"] spFeeds) (Dpair_holds:DefOk P w K mg base CX0 k "pair_holds" ["gates", "gate", "it", "why", "feeds"] spPH) (z_zip:mg "zip" = none):FnOk P w K mg base CX0 (k + 1) f fd ["net", "gates", "pairs"] (spGH CN):=by
 have nd:=scGH.nd;refine F.ok scGH (fun vs H Q E h=>by obtain ⟨nt,gp,op,gl,ql,net,al,xs,os,prs,qs,rfl,_⟩:=h; rfl) (fun cdv A outer s0 H vs Q E hr h=>?_)
 obtain ⟨nt,gp,op,gl,ql,net,al,xs,os,prs,qs,rfl,na,ok,ga,hql,pp,lp,lt,q⟩:=h;refine ⟨_,(Pr.h (aj (bB zm rfl (eE .tuple .list (gl35.g 0 rfl) z_zip (aa (aT (qv av35 0 rfl) rfl) (aa (qv av35 2 rfl) ab ae) bH)) (cg rfl (aX (aG (i:=3) nd rfl (av35.l 3 rfl)) (aX (aG (i:=4) nd rfl (av35.l 4 rfl)) bS))) (aj (aw (br (bK (ay aB (ak aH (qv av35 3 rfl) ag (fun _ _=>rfl)) aq (nomark _)) (bR (ay eR (qv av35 4 rfl) cH (nomark _))))) (ai sD) az) (bG (eI (i:=5) nd rfl (av35.l 5 rfl) rfl nu (cf (av Dfeeds_of hr (gl35.g 1 rfl) pass0 (aa (qv av35 3 rfl) ab ae) fA)) (fun _ _ _ _ _=>(aG (i:=0) nu.nd rfl (Or.inl (nv.k 0 rfl)) (Or.inr (nv.k 0 rfl)))) (fun _ _ _ _ _=>bY) (fun _ _ _ _ _=>(ak (dr K rfl) (qw nz 1 rfl) (qw nz 0 rfl) (fun _ _=>rfl))) rfl) (aj (aw (ay (tY hr.units) cH (qv av35 5 rfl) rfl) (ai (au bz)) az) (ai (aw (bW (aU (av Dpair_holds hr (gl35.g 2 rfl) pass0 (aa (qv av35 1 rfl) (aa (qv av35 3 rfl) (aa (ak aH (qv av35 4 rfl) ag (fun _ _=>rfl)) (aa (ak aH (qv av35 4 rfl) ag (fun _ _=>rfl)) (aa (cq rfl nA (cf (qv av35 5 rfl)) (fun _ _ _ _ _=>(aG (i:=0) nA.nd rfl (Or.inl (nC.k 0 rfl)) (Or.inr (nC.k 0 rfl)))) (fun _ _ _ _ _=>bY) (fun _ _ _ _ _=>(ak (cV K rfl) (qw xE 0 rfl) ag (fun _ _=>rfl)))) ab dE) aK) aK) ae) ae) xB))) (ai (au bz)) az)))))) (ai (au bz)))),?_⟩
 (try dsimp only [cxOf])
 obtain ⟨⟨d1,ob1⟩,gt1,gg1,_⟩:=id na;have fo1:=dJ gp op;have lx:xs.length=net.length:=gg1.len;walk_at "rd";refine eC (xs:=xs) (ys:=qs) (fun i σ H'=>Ch [] H H'/\Fine net prs (okG al prs) i/\∃ u v z,σ=[some (.ref nt),some (.ref gl),some (.ref ql),u,v,z]) ⟨Ch.refl _ _,.z,_,_,_,rfl⟩ ?_ ?_ ?_
 ·rintro i σ H' hi ⟨c,_⟩
  exact ⟨SqT.of (c.get gt1 (by simp)),SqL.of (c.get hql (by simp))⟩
 ·rintro i x y σ H' T hx hy ⟨c,bx,u,v,z,rfl⟩ hT
  have hi:i < net.length:=by rw [<- lx]; exact (yR.mp hx).1
  obtain ⟨g,hgi⟩:∃ g,net[i]?=some g:=⟨_,yO hi⟩;obtain ⟨pr,hpi⟩:∃ pr,prs[i]?=some pr:=⟨_,yO (by omega)⟩
  obtain ⟨p,ep,hp⟩:=gg1.at_ i g hgi;have bad:okG al prs (g,pr)=false->∀ H',Ch [] H H'->Q (.bl false) H':=fun z H' c=>by
   have:=q H' c;unfold ghB at this
   rwa [jq hgi hpi z] at this
  have good:=fun z=>bx.s hgi hpi z
  clear bx;obtain ⟨pa,ea,ha⟩:=pp.at_ i pr hpi;rw [hx] at ep;cases ep;rw [hy] at ea;cases ea;have cT:=Ch.new (W:=[]) hT (.tup [.ref p,.ref pa]);have hT1:upd H' T (.tup [.ref p,.ref pa]) T=_:=ah;have cc:=c.trans cT;obtain ⟨HT,eHT⟩:∃ HT,HT=upd H' T (.tup [.ref p,.ref pa]):=⟨_,rfl⟩;rw [<- eHT] at cc hT1 ⊢;have hp1:=cc.get hp (by simp)
  have ha1:=cc.get ha (by simp)
  obtain ⟨wd,rs,ev,hd⟩:=ft g;have hp2:=hp1;rw [ev] at hp2;walk_at "rd";rw [hd];cases ei:g.isIn with
  | true =>
   have gd:=good (by unfold okG; rw [ei]; rfl)
   clear good bad;refine iteT ?_;walk_at "rd"
  | false =>
  have ni:g≠.inp:=fun z=>by rw [z] at ei; cases ei
  have eG:okG al prs (g,pr)=phB al (rho prs) pr.1 pr.2 g:=by unfold okG; rw [ei]; rfl
  rw [eG] at bad good;have lf:∀ a∈g.feeds,a < net.length:=fun a ha=>by
   have:=ok i g hgi;cases g <;> simp [Gt.feeds,Gt.ok] at ha this <;> omega
  have lr:∀ a∈g.feeds,rho prs a < al.length:=fun a ha=>by
   have la:=lf a ha;have e:=yO (l:=prs) (i:=a) (by omega)
   have:=lt _ (zc e);unfold rho;rw [zi,e];exact this
  refine iteF ?_;walk_at "rd";refine bC (fun σ H2=>∃ fl zs,Ch [] H H2/\H2 fl=some (.lst zs)/\Prs H2 (prF prs g.feeds) zs/\σ=[some (.ref nt),some (.ref gl),some (.ref ql),some (.ref p),some (.ref pa),some (.ref fl)]) ?_ ?_
  ·walk_at "rd"
   rename_i r H3 c3 fr hr3;have c13:=cc.trans c3;have hq3:=c13.get hql (by simp)
   have pp3:=pp.tu (Tu.same c13);refine dq (g.feeds.map nV) (fun j zs σ H'=>H'=H3/\Prs H3 (prF prs (g.feeds.take j)) zs/\∃ u,σ=[u,some (.ref ql)]) (by rw [yS,zf]; have:=nh g; omega) ⟨rfl,⟨rfl,fun i p e=>by simp [prF] at e⟩,_,rfl⟩ ?_ ?_ ?_
   ·rintro j zs σ H' hj ⟨rfl,pz,_⟩
    refine ⟨?_,SqL.of hr3⟩;rw [pz.len];simp [prF,zH];rw [yS] at hj;omega
   ·rintro j zs σ H' x hx' ⟨rfl,pz,u,rfl⟩
    rw [yY] at hx';obtain ⟨n,en,rfl⟩:=zt.mp hx';have ln:=lf n (zc en);obtain ⟨pn,epn⟩:∃ pn,prs[n]?=some pn:=⟨_,yO (by omega)⟩
    obtain ⟨an,ean,han⟩:=pp3.at_ n pn epn;have at1:=bA ean;have pz2:=pz.push han;rw [<- xA en epn] at pz2;unfold nV at *;walk_at "rd"
   ·rintro zs σ H' ⟨rfl,pz,_⟩
    rw [yS,zu] at pz;walk_at "rd";rename_i fl hfl;exact ⟨pz.tu (Tu.same (Ch.new hfl _)),rfl⟩
  ·rintro σ H2 ⟨fl,zs,c2,hfl,pz,rfl⟩
   have hz:∀ z∈zs,∃ p,z=.ref p/\((∃ zs,H2 p=some (.lst zs))\/∃ zs,H2 p=some (.tup zs)):=fun z hz=>by
    obtain ⟨j,hj⟩:=Av hz;have lj:j < (prF prs g.feeds).length:=by rw [<- pz.len]; exact (yR.mp hj).1
    obtain ⟨a,e1,e2⟩:=pz.at_ j _ (yO lj);rw [hj] at e1;cases e1;exact ⟨a,rfl,.inr ⟨_,e2⟩⟩
   have hp3:=c2.get hp (by simp)
   have ha3:=c2.get ha (by simp)
   have ga3:=ga.ch c2;walk_at "rd";refine dq zs (fun j ys σ H'=>H'=H2/\ys=((prF prs g.feeds).take j).map (fun p=>nV p.1)/\∃ u,σ=[u]) (by rw [pz.len,zf]; have:=nh g; simp only [prF,yS]; omega) ⟨rfl,rfl,_,rfl⟩ ?_ ?_ ?_
   ·rintro j ys σ H' hj ⟨rfl,rfl,_⟩
    refine ⟨?_,SqL.of hfl⟩;rw [pz.len] at hj;simp [zH];omega
   ·rintro j ys σ H' x hx' ⟨rfl,rfl,u,rfl⟩
    have lj:j < (prF prs g.feeds).length:=by rw [<- pz.len]; exact (yR.mp hx').1
    obtain ⟨pj,epj⟩:∃ pj,(prF prs g.feeds)[j]?=some pj:=⟨_,yO lj⟩;obtain ⟨a,e1,e2⟩:=pz.at_ j _ epj;rw [hx'] at e1;cases e1;walk_at "rd";refine ⟨?_,_,rfl⟩;rw [zx,epj];simp
   ·rintro ys σ H' ⟨rfl,rfl,_⟩
    rw [pz.len,zu,xx];walk_at "rd";rename_i D hD;refine ⟨lt _ (zc hpi),lr,fun H4 c4=>?_⟩
    have cN:=(c2.trans (Ch.new hD _)).trans c4;cases eph:phB al (rho prs) pr.1 pr.2 g with
    | true =>
     have gd:=good eph;clear good bad;refine ⟨_,rfl,?_⟩;refine iteF ?_;walk_at "rd"
    | false=>exact ⟨_,rfl,iteT (bad eph _ cN)⟩
 ·rintro σ H' ⟨c,bx,u,v,z,rfl⟩
  unfold ghB at q;rw [bx.d (by rw [lx]; have:=pp.len; omega)] at q
  walk_at "rd";exact q _ c
end
end

section
local macro_rules | `(tactic| walk_at "user")=>`(tactic| first
 | (apply GA.ch; (focus with_reducible assumption); (focus walk_at "ch"))
 | (apply NetAt.ch; (focus with_reducible assumption); (focus walk_at "ch")))
def shB (net:List Gt) (os:List Nat) (sg:List Gt) (so:List Nat) (lo:List Gt) (prs:List (Nat × Str)):Bool:=ihB net sg prs && (ohB os so prs && ghB net (sg++lo) prs)
structure Ppr (net:List Gt) (os:List Nat) (sg lo:List Gt) (prs:List (Nat × Str)):Prop where
 ok:Oks net
 len:prs.length=net.length
 lt:∀ p∈prs,p.1 < (sg++lo).length
 lk:∀ (j:Nat) (g:Gt),lo[j]?=some g->g≠.inp/\g.ok (sg.length + j) (sg.length + lo.length)
 lo:∀ o∈os,o < net.length
section
variable {P:Program}{w:World}{K:PySem.W.Frag}{mg:Str->Option Value}{base:Heap}{f:Addr}{fd:FuncData}{k:Nat}
theorem xG:Nd "with_lost" := ∅
theorem xH:Nd "are_pairs" := ∅
theorem xI:Nd "gates_hold" := ∅
theorem xJ:Nd "outs_hold" := ∅
theorem xK:Nd "ins_hold" := ∅
theorem gl36:AG (defScope (top 36)) ["is_pair", "with_lost", "are_pairs", "len", "gates_hold", "outs_hold", "ins_hold"]:=⟨∅⟩
theorem av36:AF (defScope (top 36)) ["net", "small", "paper", "gates", "pairs"]:=⟨∅⟩
def spSH (CN:Addr):Sp:=fun vs H Q _=>∃ (nt gp op st gp2 op2 pp ll ql:Addr) (net sg lo:List Gt) (xs xs2 zs qs:List V) (os so:List Nat) (prs:List (Nat × Str)),vs=[.ref nt,.ref st,.ref pp]/\NetAt CN H nt gp op net xs os/\NetAt CN H st gp2 op2 sg xs2 so/\H pp=some (.tup [.ref ll,.ref ql])/\H ll=some (.lst zs)/\Gs H lo zs/\H ql=some (.lst qs)/\Prs H prs qs /\
 net.length<=1000/\sg.length<=1000/\lo.length<=1000/\Ppr net os sg lo prs/\∀ (H':Hp),Ch [] H H'->Q (.bl (shB net os sg so lo prs)) H'
theorem scSH:FnScope ["net", "small", "paper", "gates", "pairs"] ["net", "small", "paper"] (defScope (top 36)):=⟨rfl,rfl,rfl,∅,rfl,∅,∅⟩
theorem xM (F:Fun K "small_holds" "small_holds" (top 36) f fd) (cl:Cls K CN) (nG:NoAttr K CN "gates") (Dis_pair:DefOk P w K mg base CX0 k "is_pair" ["thing"] spPair) (Dwith_lost:DefOk P w K mg base CX0 k "with_lost" ["small", "lost"] (spWL CN)) (Dare_pairs:DefOk P w K mg base CX0 k "are_pairs" ["pairs", "count", "total"] spAP)
  (Dins_hold:DefOk P w K mg base CX0 k "ins_hold" ["net", "small", "pairs"] (spIH CN)) (Douts_hold:DefOk P w K mg base CX0 k "outs_hold" ["net", "small", "pairs"] (spOH CN)) (Dgates_hold:DefOk P w K mg base CX0 k "gates_hold" ["net", "gates", "pairs"] (spGH CN)) (z_len:mg "len" = none):FnOk P w K mg base CX0 (k + 1) f fd ["net", "small", "paper"] (spSH CN):=by
 have nd:=scSH.nd;refine F.ok scSH (fun vs H Q E h=>by obtain ⟨nt,gp,op,st,gp2,op2,pp,ll,ql,net,sg,lo,xs,xs2,zs,qs,os,so,prs,rfl,_⟩:=h; rfl) (fun cdv A outer s0 H vs Q E hr h=>?_)
 obtain ⟨nt,gp,op,st,gp2,op2,pp,ll,ql,net,sg,lo,xs,xs2,zs,qs,os,so,prs,rfl,na,na2,hpp,hll,gz,hql,pq,l1,l2,l3,sh,q⟩:=h;refine ⟨_,(Pr.h (aj (aw (bW (aU (av Dis_pair hr (gl36.g 0 rfl) pass0 (aa (qv av36 2 rfl) ab ae) mK))) (ai (au bz)) az) (bG (aE (i:=3) nd rfl (av36.l 3 rfl) (av Dwith_lost hr (gl36.g 1 rfl) pass0 (aa (qv av36 1 rfl) (aa (ak aH (qv av36 2 rfl) ag (fun _ _=>rfl)) ab aK) ae) xG)) (aj (aw (br (bK (ay eR (qv av36 3 rfl) cH (nomark _)) (bR (bW (aU (av Dare_pairs hr (gl36.g 2 rfl) pass0 (aa (ak aH (qv av36 2 rfl) ag (fun _ _=>rfl)) (aa (aF aL (gl36.g 3 rfl) z_len yX (aa (aT (qv av36 0 rfl) rfl) ab bH) aM aO) (aa (aF aL (gl36.g 3 rfl) z_len yX (aa (qv av36 3 rfl) ab ae) aM aO) ab bb) bb) aK) xH)))))) (ai (au bz)) az) (bG (aE (i:=4) nd rfl (av36.l 4 rfl) (ak aH (qv av36 2 rfl) ag (fun _ _=>rfl))) (ai (au (bp (av Dins_hold hr (gl36.g 6 rfl) pass0 (aa (qv av36 0 rfl) (aa (qv av36 1 rfl) (aa (qv av36 4 rfl) ab ae) ae) ae) xK) (bp (av Douts_hold hr (gl36.g 5 rfl) pass0 (aa (qv av36 0 rfl) (aa (qv av36 1 rfl) (aa (qv av36 4 rfl) ab ae) ae) ae) xJ) (bc (av Dgates_hold hr (gl36.g 4 rfl) pass0 (aa (qv av36 0 rfl) (aa (qv av36 3 rfl) (aa (qv av36 4 rfl) ab ae) ae) ae) xI))))))))))),?_⟩
 (try dsimp only [cxOf])
 obtain ⟨⟨d1,ob1⟩,gt1,gg1,_⟩:=id na;have fo1:=dJ gp op;have lx:xs.length=net.length:=gg1.len;walk_at "rd";rename_i H1 c1;refine iteF ?_;have na1:=na2.ch c1;have hpp1:=c1.get hpp (by simp)
 have hll1:=c1.get hll (by simp)
 have gz1:=gz.tu (Tu.same c1);have lk:=sh.lk;walk_at "rd";refine bC (fun σ H2=>∃ r,Ch [] H H2/\GA H2 r (sg++lo)/\σ=[some (.ref nt),some (.ref st),some (.ref pp),some (.ref r),none]) ?_ ?_
 ·walk_at "rd"
 rintro σ H2 ⟨r,c2,ga,rfl⟩;obtain ⟨ys,hys,gy⟩:=ga.ex;have hpp2:=c2.get hpp (by simp)
 have hql2:=c2.get hql (by simp)
 have pq2:=pq.tu (Tu.same c2);have ob2:=c2.get ob1 (by simp)
 have gt2:=c2.get gt1 (by simp)
 have lq:prs.length=xs.length:=by rw [lx]; exact sh.len
 have lt:∀ p∈prs,p.1 < ys.length:=by rw [gy.len]; exact sh.lt
 walk_at "rd";rename_i H3 c3;refine iteF ?_;have hpp3:=c3.get hpp2 (by simp)
 walk_at "rd";refine bC (fun σ H4=>Ch [] H H4/\GA H4 r (sg++lo)/\σ=[some (.ref nt),some (.ref st),some (.ref pp),some (.ref r),some (.ref ql)]) ?_ ?_
 ·walk_at "rd"
 rintro σ H4 ⟨c4,ga4,rfl⟩;clear hpp2 hql2 pq2 ob2 gt2 lt hpp3 hys gy ga c3 c2 hpp1 hll1 gz1 na1 c1 hll gz lq;have na4:=na.ch c4;have nb4:=na2.ch c4;have hq4:=c4.get hql (by simp)
 have pq4:=pq.tu (Tu.same c4);have lq:=sh.len;have lo':∀ o∈os,o < prs.length:=fun o h=>by rw [lq]; exact sh.lo o h
 have ok:=sh.ok;have lt:=sh.lt;unfold shB at q;walk_at "rd";rename_i H5 c5;have na5:=na4.ch c5;have nb5:=nb4.ch c5;have ga5:=ga4.ch c5;have hq5:=c5.get hq4 (by simp)
 have pq5:=pq4.tu (Tu.same c5);clear na4 nb4 ga4 hq4 pq4;cases hi:ihB net sg prs with
 | false =>
  rw [hi,AL] at q;exact iteF (q _ (c4.trans c5))
 | true =>
 rw [hi,Bool.true_and] at q;refine iteT ?_;walk_at "rd";rename_i H6 c6;have na6:=na5.ch c6;have ga6:=ga5.ch c6;have hq6:=c6.get hq5 (by simp)
 have pq6:=pq5.tu (Tu.same c6);clear na5 nb5 ga5 hq5 pq5;cases ho:ohB os so prs with
 | false =>
  rw [ho,AL] at q;exact iteF (q _ ((c4.trans c5).trans c6))
 | true =>
 rw [ho,Bool.true_and] at q;refine iteT ?_;walk_at "rd";rename_i H7 c7;exact q _ (((c4.trans c5).trans c6).trans c7)
end
end

section
structure Sho (net:List Gt) (os:List Nat) (sg:List Gt) (so:List Nat) (lo:List Gt) (prs:List (Nat × Str)):Prop where
 ok:Oks net
 len:prs.length=net.length
 lt:∀ p∈prs,p.1 < (sg++lo).length
 lk:∀ (j:Nat) (g:Gt),lo[j]?=some g->g≠.inp/\g.ok (sg.length + j) (sg.length + lo.length)
 il:(numsOf Gt.isIn net 0).length=(numsOf Gt.isIn sg 0).length
 ins:∀ (j n m:Nat),(numsOf Gt.isIn net 0)[j]?=some n->(numsOf Gt.isIn sg 0)[j]?=some m->prs[n]?=some (m,Str.ofString "in")
 ol:os.length=so.length
 outs:∀ (j o m:Nat),os[j]?=some o->so[j]?=some m->∃ y,prs[o]?=some (m,y)
 gts:∀ (i:Nat) (g:Gt) (p:Nat × Str),net[i]?=some g->g≠.inp->prs[i]?=some p->phB (sg++lo) (rho prs) p.1 p.2 g=true
theorem bL {c:Prop} [Decidable c] {a b:Bool} (h1:c->a=true->a'=true) (h2:¬ c->b=true->b'=true) (h:(if c then a else b)=true):(if c then a' else b')=true:=by
 by_cases z:c
 ·rw [yN z] at h ⊢; exact h1 z h
 ·rw [yM z] at h ⊢; exact h2 z h
theorem bJ {a b:Bool} (h1:a=true->a'=true) (h2:b=true->b'=true) (h:(a && b)=true):(a' && b')=true:=by
 rw [yU] at h ⊢; exact ⟨h1 h.1,h2 h.2⟩
theorem bU {a b:Bool} (h1:a=true->a'=true) (h2:b=true->b'=true) (h:(a || b)=true):(a' || b')=true:=by
 rw [zO] at h ⊢; exact h.imp h1 h2
theorem bu {p q:Prop} [Decidable p] [Decidable q] (h:p->q) (e:decide p=true):decide q=true:=y8 (h (zL e))
def Sim (gs al:List Gt) (R:Nat->Nat):Prop:=∀ (n:Nat) (g:Gt),g.src=false->gs[n]?=some g->al[R n]?=some (g.ren R)
section
variable {gs al:List Gt}{R:Nat->Nat}
theorem Sim.z (s:Sim gs al R) {x:Nat}:isZ gs x=true->isZ al (R x)=true:=bu fun e=>s _ _ rfl e
theorem Sim.o (s:Sim gs al R) {x:Nat}:isO gs x=true->isO al (R x)=true:=bu fun e=>s _ _ rfl e
theorem Sim.op (s:Sim gs al R) {x y:Nat}:opsd gs x y=true->opsd al (R x) (R y)=true:=bU (bu fun e=>s _ _ rfl e) (bu fun e=>s _ _ rfl e)
theorem Sim.ru (s:Sim gs al R):∀ {g:Gt},ruB gs ρ it why g=true->ruB al (fun a=>R (ρ a)) (R it) why g=true
 | .not a=>bL (fun _=>bu fun e=>s _ _ rfl e) fun _=>bL (fun _=>bJ s.z s.o) fun _=>bL (fun _=>bJ s.o s.z) fun _ h=>h
 | .and a b=>bL (fun _=>bJ (bu (za R)) (bU s.o (bu (za R)))) fun _=>bL (fun _=>bJ (bu (za R)) s.o) fun _=>bL (fun _=>bJ s.z (bU s.z (bU s.z s.op))) fun _ h=>h
 | .or a b=>bL (fun _=>bJ (bu (za R)) (bU s.z (bu (za R)))) fun _=>bL (fun _=>bJ (bu (za R)) s.z) fun _=>bL (fun _=>bJ s.o (bU s.o (bU s.o s.op))) fun _ h=>h
 | .xor a b=>bL (fun _=>bJ (bu (za R)) s.z) fun _=>bL (fun _=>bJ (bu (za R)) s.z) fun _=>bL (fun _=>bJ s.z (bu (za R))) fun _=>bL (fun _=>bJ s.o s.op) fun _=>bL (fun _=>bU (bJ s.o s.op) (bJ s.o s.op)) fun _ h=>h
 | .pick a b c=>bL (fun _=>bJ (bu (za R)) (bU s.o (bu (za R)))) fun _=>bL (fun _=>bJ (bu (za R)) s.z) fun _=>bL (fun _=>bJ (bu (za R)) (bJ s.o s.z)) fun _=>bL (fun _=>bJ s.op (bJ s.z s.o)) fun _ h=>h
 | .inp=>fun h=>by cases h
 | .zero=>fun h=>by cases h
 | .one=>fun h=>by cases h
 | .keep _ _=>fun h=>by cases h
theorem Sim.ph (s:Sim gs al R) (hs:g.src=false) (h:phB gs ρ it why g=true):phB al (fun a=>R (ρ a)) (R it) why g=true:=by
 cases g <;> first | (cases hs; done) | skip
 all_goals
  simp only [phB] at h ⊢;refine bL (fun _=>bu fun e=>?_) (fun _=>bL (fun c=>bu fun e=>?_) fun _ z=>s.ru z) h
  ·exact s _ _ rfl e
  ·first | exact s _ _ rfl e | (exact absurd c.2 (by simp [Gt.two]))
end
theorem mnmx {a b c d:Nat} (e1:min a b=min c d) (e2:max a b=max c d) (n:¬(a=c/\b=d)):a=d/\b=c:=by
 rcases Nat.le_total a b with h | h <;> rcases Nat.le_total c d with k | k <;> simp only [Nat.min_eq_left,Nat.min_eq_right,Nat.max_eq_left,Nat.max_eq_right,h,k] at e1 e2
 ·exact absurd ⟨e1,e2⟩ n
 ·exact ⟨e1,e2⟩
 ·exact ⟨e2,e1⟩
 ·exact absurd ⟨e2,e1⟩ n
theorem nE (e:h.nf=g.nf) (n:h≠g):g.two=true/\h=g.trn id:=by
 cases h <;> cases g <;> simp only [Gt.nf,Gt.and.injEq,Gt.or.injEq,Gt.xor.injEq,reduceCtorEq] at e <;> first | (exact absurd e n) | (exact absurd rfl n) | skip
 all_goals
  refine ⟨rfl,?_⟩;simp only [Gt.trn,id,Gt.and.injEq,Gt.or.injEq,Gt.xor.injEq,ne_eq] at n ⊢;exact mnmx e.1 e.2 n
theorem xN (e:h.nf=g.nf) (t:g.two=false):h=g:=by
 by_cases n:h=g
 ·exact n
 ·rw [(nE e n).1] at t; cases t
theorem fI (e:gs[n]?=some g):(like gs h).1[n]?=some g:=by
 unfold like
 split
 ·exact e
 ·rw [zb (yR.mp e).1]; exact e
theorem nF{x:Nat} (e:gs[n]?=some g):(opp gs x).1[n]?=some g:=by
 unfold opp
 split
 ·exact e
 ·exact fI e
theorem nH (gs:List Gt) (h:Gt):∃ h',(like gs h).1[(like gs h).2]?=some h'/\h'.nf=h.nf:=by
 unfold like;cases e:findI gs h with
 | some i=>obtain ⟨h',e1,_,e3⟩:=iP e; exact ⟨h',e1,e3⟩
 | none=>exact ⟨h,by simp,rfl⟩
theorem jt (gs:List Gt) (t:h.two=false):(like gs h).1[(like gs h).2]?=some h:=by
 obtain ⟨h',e1,e2⟩:=nH gs h;rw [xN e2 t] at e1;exact e1
theorem lk_z{x:Nat}:isZ gs x=true->isZ (like gs h).1 x=true:=bu fI
theorem lk_o{x:Nat}:isO gs x=true->isO (like gs h).1 x=true:=bu fI
theorem ju{x y:Nat}:opsd gs x y=true->opsd (like gs h).1 x y=true:=bU (bu fI) (bu fI)
theorem jv (gs:List Gt):isZ (like gs .zero).1 (like gs .zero).2=true:=y8 (jt gs rfl)
theorem jw (gs:List Gt):isO (like gs .one).1 (like gs .one).2=true:=y8 (jt gs rfl)
theorem op_z{x y:Nat}:isZ gs y=true->isZ (opp gs x).1 y=true:=bu nF
theorem op_o{x y:Nat}:isO gs y=true->isO (opp gs x).1 y=true:=bu nF
theorem jx (gs:List Gt) (x:Nat):opsd (opp gs x).1 (opp gs x).2 x=true:=by
 unfold opp opsd;rw [zO]
 split
 ·rename_i a e; exact .inr (y8 e)
 ·exact .inl (y8 (jt gs rfl))
theorem dZ{g:Gt} (hs:g.src=false):phB (plain gs (g.ren ρ)).1 ρ (plain gs (g.ren ρ)).2.1 (plain gs (g.ren ρ)).2.2 g=true:=by
 have hk:g.isKeep=false:=by cases g <;> first | rfl | (cases hs)
 obtain ⟨h',e1,e2⟩:=nH gs (g.ren ρ);unfold plain
 by_cases z:(like gs (g.ren ρ)).1[(like gs (g.ren ρ)).2]?=some (g.ren ρ)
 ·rw [yN z]
  exact (dB hk).trans (y8 z)
 ·rw [yM z]
  have n:h'≠g.ren ρ:=fun y=>z (by rw [e1,y])
  obtain ⟨t,e⟩:=nE e2 n;have t2:g.two=true:=by cases g <;> first | rfl | (cases t)
  have e4:(g.ren ρ).trn id=g.trn ρ:=by cases g <;> first | rfl | (cases t)
  exact (fC t2).trans (y8 (by rw [e1,e,e4]))
theorem ne_s {s t:String} (h:(Str.ofString s == Str.ofString t)=false):¬ Str.ofString s=Str.ofString t:=fun z=>by rw [z] at h; simp at h
theorem xO{a:Nat}:phB (notP gs (ρ a)).1 ρ (notP gs (ρ a)).2.1 (notP gs (ρ a)).2.2 (.not a)=true:=by
 unfold notP
 by_cases h1:isZ gs (ρ a)=true
 ·rw [yN h1]
  (try unfold lk)
  refine (bj rfl (by exact ne_s ∅) (fun z=>absurd z.2 (by simp [Gt.two]))).trans ?_
  show notB _ _ _ _=true;unfold notB;rw [yM (by exact ne_s ∅),yN rfl,yU]
  exact ⟨lk_z h1,jw gs⟩
 rw [yM h1]
 by_cases h2:isO gs (ρ a)=true
 ·rw [yN h2]
  (try unfold lk)
  refine (bj rfl (by exact ne_s ∅) (fun z=>absurd z.2 (by simp [Gt.two]))).trans ?_
  show notB _ _ _ _=true;unfold notB;rw [yM (by exact ne_s ∅),yM (by exact ne_s ∅),yN rfl,yU]
  exact ⟨lk_o h2,jv gs⟩
 rw [yM h2]
 split
 ·rename_i b e
  refine (bj rfl (by exact ne_s ∅) (fun z=>absurd z.2 (by simp [Gt.two]))).trans ?_
  show notB _ _ _ _=true;unfold notB;rw [yN rfl];exact y8 e
 ·exact dZ (g:=.not a) rfl
theorem xP{a b:Nat}:phB (andP gs (ρ a) (ρ b)).1 ρ (andP gs (ρ a) (ρ b)).2.1 (andP gs (ρ a) (ρ b)).2.2 (.and a b)=true:=by
 unfold andP
 by_cases h1:(isO gs (ρ b) || decide (ρ a=ρ b))=true
 ·rw [yN h1]
  (try unfold lk)
  refine (bj rfl (by exact ne_s ∅) (fun z=>absurd z.1 (by exact ne_s ∅))).trans ?_
  show andB _ _ _ _ _=true;unfold andB;rw [yN rfl,yU];exact ⟨y8 rfl,bU id (bu Eq.symm) h1⟩
 rw [yM h1]
 by_cases h2:isO gs (ρ a)=true
 ·rw [yN h2]
  (try unfold lk)
  refine (bj rfl (by exact ne_s ∅) (fun z=>absurd z.1 (by exact ne_s ∅))).trans ?_
  show andB _ _ _ _ _=true;unfold andB;rw [yM (by exact ne_s ∅),yN rfl,yU]
  exact ⟨y8 rfl,h2⟩
 rw [yM h2]
 by_cases h3:(isZ gs (ρ a) || (isZ gs (ρ b) || opsd gs (ρ a) (ρ b)))=true
 ·rw [yN h3]
  (try unfold lk)
  refine (bj rfl (by exact ne_s ∅) (fun z=>absurd z.1 (by exact ne_s ∅))).trans ?_
  show andB _ _ _ _ _=true;unfold andB;rw [yM (by exact ne_s ∅),yM (by exact ne_s ∅),yN rfl,yU]
  exact ⟨jv gs,bU lk_z (bU lk_z ju) h3⟩
 rw [yM h3];exact dZ (g:=.and a b) rfl
theorem xQ{a b:Nat}:phB (orP gs (ρ a) (ρ b)).1 ρ (orP gs (ρ a) (ρ b)).2.1 (orP gs (ρ a) (ρ b)).2.2 (.or a b)=true:=by
 unfold orP
 by_cases h1:(isZ gs (ρ b) || decide (ρ a=ρ b))=true
 ·rw [yN h1]
  (try unfold lk)
  refine (bj rfl (by exact ne_s ∅) (fun z=>absurd z.1 (by exact ne_s ∅))).trans ?_
  show orB _ _ _ _ _=true;unfold orB;rw [yN rfl,yU];exact ⟨y8 rfl,bU id (bu Eq.symm) h1⟩
 rw [yM h1]
 by_cases h2:isZ gs (ρ a)=true
 ·rw [yN h2]
  (try unfold lk)
  refine (bj rfl (by exact ne_s ∅) (fun z=>absurd z.1 (by exact ne_s ∅))).trans ?_
  show orB _ _ _ _ _=true;unfold orB;rw [yM (by exact ne_s ∅),yN rfl,yU]
  exact ⟨y8 rfl,h2⟩
 rw [yM h2]
 by_cases h3:(isO gs (ρ a) || (isO gs (ρ b) || opsd gs (ρ a) (ρ b)))=true
 ·rw [yN h3]
  (try unfold lk)
  refine (bj rfl (by exact ne_s ∅) (fun z=>absurd z.1 (by exact ne_s ∅))).trans ?_
  show orB _ _ _ _ _=true;unfold orB;rw [yM (by exact ne_s ∅),yM (by exact ne_s ∅),yN rfl,yU]
  exact ⟨jw gs,bU lk_o (bU lk_o ju) h3⟩
 rw [yM h3];exact dZ (g:=.or a b) rfl
theorem xR{a b:Nat}:phB (xorP gs (ρ a) (ρ b)).1 ρ (xorP gs (ρ a) (ρ b)).2.1 (xorP gs (ρ a) (ρ b)).2.2 (.xor a b)=true:=by
 unfold xorP
 by_cases h1:isZ gs (ρ b)=true
 ·rw [yN h1]
  (try unfold lk)
  refine (bj rfl (by exact ne_s ∅) (fun z=>absurd z.1 (by exact ne_s ∅))).trans ?_
  show xorB _ _ _ _ _=true;unfold xorB;rw [yN rfl,yU];exact ⟨y8 rfl,h1⟩
 rw [yM h1]
 by_cases h2:isZ gs (ρ a)=true
 ·rw [yN h2]
  (try unfold lk)
  refine (bj rfl (by exact ne_s ∅) (fun z=>absurd z.1 (by exact ne_s ∅))).trans ?_
  show xorB _ _ _ _ _=true;unfold xorB;rw [yM (by exact ne_s ∅),yN rfl,yU]
  exact ⟨y8 rfl,h2⟩
 rw [yM h2]
 by_cases h3:ρ a=ρ b
 ·rw [yN h3]
  (try unfold lk)
  refine (bj rfl (by exact ne_s ∅) (fun z=>absurd z.1 (by exact ne_s ∅))).trans ?_
  show xorB _ _ _ _ _=true;unfold xorB;rw [yM (by exact ne_s ∅),yM (by exact ne_s ∅),yN rfl,yU]
  exact ⟨jv gs,y8 h3⟩
 rw [yM h3]
 by_cases h4:opsd gs (ρ a) (ρ b)=true
 ·rw [yN h4]
  (try unfold lk)
  refine (bj rfl (by exact ne_s ∅) (fun z=>absurd z.1 (by exact ne_s ∅))).trans ?_
  show xorB _ _ _ _ _=true;unfold xorB;rw [yM (by exact ne_s ∅),yM (by exact ne_s ∅),yM (by exact ne_s ∅),yN rfl,yU]
  exact ⟨jw gs,ju h4⟩
 rw [yM h4]
 by_cases h5:isO gs (ρ b)=true
 ·rw [yN h5]
  (try unfold lk)
  refine (bj rfl (by exact ne_s ∅) (fun z=>absurd z.1 (by exact ne_s ∅))).trans ?_
  show xorB _ _ _ _ _=true;unfold xorB;rw [yM (by exact ne_s ∅),yM (by exact ne_s ∅),yM (by exact ne_s ∅),yM (by exact ne_s ∅),yN rfl,zO,yU]
  exact .inl ⟨op_o h5,jx gs _⟩
 rw [yM h5]
 by_cases h6:isO gs (ρ a)=true
 ·rw [yN h6]
  (try unfold lk)
  refine (bj rfl (by exact ne_s ∅) (fun z=>absurd z.1 (by exact ne_s ∅))).trans ?_
  show xorB _ _ _ _ _=true;unfold xorB;rw [yM (by exact ne_s ∅),yM (by exact ne_s ∅),yM (by exact ne_s ∅),yM (by exact ne_s ∅),yN rfl,zO,yU,yU]
  exact .inr ⟨op_o h6,jx gs _⟩
 rw [yM h6];exact dZ (g:=.xor a b) rfl
theorem xS{a b c:Nat}:phB (pickP gs (ρ a) (ρ b) (ρ c)).1 ρ (pickP gs (ρ a) (ρ b) (ρ c)).2.1 (pickP gs (ρ a) (ρ b) (ρ c)).2.2 (.pick a b c)=true:=by
 unfold pickP
 by_cases h1:(isO gs (ρ a) || decide (ρ b=ρ c))=true
 ·rw [yN h1]
  (try unfold lk)
  refine (bj rfl (by exact ne_s ∅) (fun z=>absurd z.1 (by exact ne_s ∅))).trans ?_
  show pickB _ _ _ _ _ _=true;unfold pickB;rw [yN rfl,yU];exact ⟨y8 rfl,h1⟩
 rw [yM h1]
 by_cases h2:isZ gs (ρ a)=true
 ·rw [yN h2]
  (try unfold lk)
  refine (bj rfl (by exact ne_s ∅) (fun z=>absurd z.1 (by exact ne_s ∅))).trans ?_
  show pickB _ _ _ _ _ _=true;unfold pickB;rw [yM (by exact ne_s ∅),yN rfl,yU]
  exact ⟨y8 rfl,h2⟩
 rw [yM h2]
 by_cases h3:(isO gs (ρ b) && isZ gs (ρ c))=true
 ·rw [yN h3]
  (try unfold lk)
  refine (bj rfl (by exact ne_s ∅) (fun z=>absurd z.1 (by exact ne_s ∅))).trans ?_
  show pickB _ _ _ _ _ _=true;unfold pickB;rw [yM (by exact ne_s ∅),yM (by exact ne_s ∅),yN rfl,yU]
  exact ⟨y8 rfl,h3⟩
 rw [yM h3]
 by_cases h4:(isZ gs (ρ b) && isO gs (ρ c))=true
 ·rw [yN h4]
  (try unfold lk)
  refine (bj rfl (by exact ne_s ∅) (fun z=>absurd z.1 (by exact ne_s ∅))).trans ?_
  show pickB _ _ _ _ _ _=true;unfold pickB;rw [yM (by exact ne_s ∅),yM (by exact ne_s ∅),yM (by exact ne_s ∅),yN rfl,yU]
  exact ⟨jx gs _,bJ op_z op_o h4⟩
 rw [yM h4];exact dZ (g:=.pick a b c) rfl
theorem xT (hs:g.src=false):phB (gpair gs ρ g).1 ρ (gpair gs ρ g).2.1 (gpair gs ρ g).2.2 g=true:=by
 cases g with
 | inp=>cases hs
 | keep f a=>cases hs
 | zero=>exact dZ (g:=.zero) rfl
 | one=>exact dZ (g:=.one) rfl
 | not a=>exact xO
 | and a b=>exact xP
 | or a b=>exact xQ
 | xor a b=>exact xR
 | pick a b c=>exact xS
end

section
theorem xU (g:Gt):g.ren id=g:=by cases g <;> rfl
theorem xV (h:∀ a∈g.feeds,ρ a=ρ' a):g.ren ρ=g.ren ρ':=by
 cases g <;> simp only [ruB,Gt.ren,Gt.trn,Gt.feeds,yZ,ze,zh,zI] at *
 case keep f a=>first | done | rw [h a rfl]
 case not a=>first | done | rw [h a rfl]
 case and a b=>rw [h a (.inl rfl),h b (.inr rfl)]
 case or a b=>rw [h a (.inl rfl),h b (.inr rfl)]
 case xor a b=>rw [h a (.inl rfl),h b (.inr rfl)]
 case pick a b c=>first | done | rw [h a (.inl rfl),h b (.inr (.inl rfl)),h c (.inr (.inr rfl))]
theorem xW (h:∀ a∈g.feeds,ρ a=ρ' a):g.trn ρ=g.trn ρ':=by
 cases g <;> simp only [ruB,Gt.ren,Gt.trn,Gt.feeds,yZ,ze,zh,zI] at *
 case and a b=>rw [h a (.inl rfl),h b (.inr rfl)]
 case or a b=>rw [h a (.inl rfl),h b (.inr rfl)]
 case xor a b=>rw [h a (.inl rfl),h b (.inr rfl)]
theorem xX {al:List Gt}{it:Nat}{why:Str} (h:∀ a∈g.feeds,ρ a=ρ' a):ruB al ρ it why g=ruB al ρ' it why g:=by
 cases g <;> simp only [ruB,Gt.ren,Gt.trn,Gt.feeds,yZ,ze,zh,zI] at *
 case not a=>first | done | rw [h a rfl]
 case and a b=>rw [h a (.inl rfl),h b (.inr rfl)]
 case or a b=>rw [h a (.inl rfl),h b (.inr rfl)]
 case xor a b=>rw [h a (.inl rfl),h b (.inr rfl)]
 case pick a b c=>first | done | rw [h a (.inl rfl),h b (.inr (.inl rfl)),h c (.inr (.inr rfl))]
theorem jy (h:∀ a∈g.feeds,ρ a=ρ' a):phB al ρ it why g=phB al ρ' it why g:=by
 have e1:=xV h;have e2:=xW h;have e3:=xX (al:=al) (it:=it) (why:=why) h;cases g with
 | keep f a=>simp only [phB]; rw [h a (by simp [Gt.feeds])]
 | _=>simp only [phB]; rw [e1,e2,e3]
theorem nJ (ok:Oks net):∀ i,i<=net.length->∀ (j:Nat) (g:Gt) (p:Nat × Str),net[j]?=some g->(shr (net.take i)).2[j]?=some p->(g.src=true->p.2=g.wd)/\(g.src=false->phB (shr (net.take i)).1 (rho (shr (net.take i)).2) p.1 p.2 g=true)
 | 0,_,j,g,p,_,h=>by
  rw [List.take_zero] at h;simp [shr] at h
 | i + 1,hi,j,g,p,ej,hp=>by
  have e:net[i]?=some net[i]:=yO (by omega)
  have si:=SI.all ok i (by omega)
  have st:=iR e;have okg:=ok i _ e;generalize net[i]=g0 at e okg st;have up:∀ (n:Nat) (g':Gt),(shr (net.take i)).1[n]?=some g'->(shr (net.take (i + 1))).1[n]?=some g':=fun n g' h=>by
   rw [st];unfold stp
   split
   ·show (_++_)[n]?=_
    rw [zb (yR.mp h).1]; exact h
   ·rename_i hs
    exact (si.ext okg (by simpa using hs)).at h
  have rp:∀ j,j < i->rho (shr (net.take (i + 1))).2 j=rho (shr (net.take i)).2 j:=fun j hj=>by
   have hl:j < (shr (net.take i)).2.length:=by rw [si.len]; exact hj
   rw [st];unfold stp rho
   split <;> (show (List.getD (_++_:List (Nat × Str)) j _).1=_; rw [zi,zi,zb hl])
  obtain ⟨q,eq⟩:∃ q,(shr (net.take (i + 1))).2=(shr (net.take i)).2++[q]:=by
   rw [st];unfold stp
   split <;> exact ⟨_,rfl⟩
  have hp2:=hp;rw [eq] at hp2;rcases bT hp2 with ⟨hj,z⟩ | ⟨hj,z⟩
  ·rw [si.len] at hj
   obtain ⟨a,b⟩:=nJ ok i (by omega) j g p ej z
   refine ⟨a,fun hs=>?_⟩
   have sm:Sim (shr (net.take i)).1 (shr (net.take (i + 1))).1 id:=fun n g' _ h=>by rw [xU]; exact up n g' h
   have fo:=da (ok j g ej) hs;have:=sm.ph hs (b hs);rw [<- this];exact jy fun a ha=>rp a (by have:=fo a ha; omega)
  ·rw [si.len] at hj
   subst hj;rw [e] at ej;cases ej;cases hg:g.src with
   | true =>
    refine ⟨fun _=>?_,fun z=>by cases z⟩
    rw [st] at hp;unfold stp at hp;rw [yN hg] at hp;rw [zw (by rw [si.len]; exact yP _),si.len,Nat.sub_self] at hp
    cases hp;rfl
   | false =>
    refine ⟨(fun z=>by cases z),fun _=>?_⟩
    have fo:=da okg hg;rw [jy (ρ':=rho (shr (net.take j)).2) fun a ha=>rp a (fo a ha)]
    rw [st] at hp ⊢;unfold stp at hp ⊢;rw [yM (by simp [hg])] at hp ⊢
    rw [zw (by rw [si.len]; exact yP _),si.len,Nat.sub_self] at hp
    cases hp;exact xT hg
end

section
theorem fK {t:Gt->Bool}{g:Gt} (e:gs[n]?=some g) (ht:t g=true):(numsOf t gs 0)[cnt t gs n]?=some n:=by
 obtain ⟨hn,eg⟩:=yR.mp e;have h:numsOf t gs 0=numsOf t (gs.take n) 0++numsOf t (gs.drop n) (0 + (gs.take n).length):=by rw [<- iG,List.take_append_drop]
 unfold cnt;rw [h,zw (yP _),Nat.sub_self,List.drop_eq_getElem_cons hn,eg];simp only [numsOf,ht,if_true,zH,Nat.min_eq_left (zF hn)];simp
theorem hG (t:Gt->Bool) (l:List Gt):∀ n,n<=l.length->(l.take n).countP t=(List.range n).countP fun m=>t (l.getD m .inp)
 | 0,_=>rfl
 | n + 1,h=>by
  have e:l[n]?=some l[n]:=yO (by omega)
  rw [zx,Ae,hG t l n (by omega),List.range_succ,Ae,e]
  simp [zi,e]
theorem jz (W:Nat->Bool) {n:Nat}:∀ {N:Nat},n<=N->(kp W N).take (cW W n)=kp W n
 | 0,h=>by
  have:n=0:=by omega
  subst this; rfl
 | N + 1,h=>by
  by_cases e:n=N + 1
  ·subst e
   exact zu
  ·rw [dN,A9]
   ·exact jz W (by omega)
   ·have:=jz W (n:=n) (N:=N) (by omega)
    have h2:(kp W n).length=cW W n:=rfl;rw [<- this,zH] at h2;omega
section
variable {net gs:List Gt}{prs:List (Nat × Str)}{os:List Nat}{W:Nat->Bool}
theorem xY (p:Gt->Bool):gs.countP p=(List.range gs.length).countP fun n=>p (gs.getD n .inp):=by
 have e:gs=(List.range gs.length).map fun n=>gs.getD n .inp:=by
  refine A5 fun i=>?_
  rw [yY]
  by_cases hi:i < gs.length
  ·rw [List.getElem?_range hi,yO hi]
   simp [zi,yO hi]
  ·rw [Ad (by omega),Ad (by simp; omega)]; rfl
 have:=za (List.countP p) e;rw [A7] at this;exact this
theorem xZ (p:Gt->Bool) (hp:∀ g ρ,p (Gt.ren ρ g)=p g):(sml gs W).countP p=(List.range gs.length).countP fun n=>p (gs.getD n .inp) && W n:=by
 unfold sml sel kp;rw [A7,List.countP_filter];refine AX fun n _=>?_
 simp [hp]
theorem x5 (w:Wd gs os W) (lg:LG net prs gs):(sml gs W).countP Gt.isIn=net.countP Gt.isIn:=by
 rw [xZ _ (fun g ρ=>lZ ρ g),<- lg.ci,xY]
 refine AX fun n hn=>?_
 have hn:=Ag.mp hn;have e:gs[n]?=some gs[n]:=yO hn;have eg:gs.getD n .inp=gs[n]:=by rw [zi,e]; rfl
 rw [eg];cases hi:gs[n].isIn with
 | false=>simp
 | true =>
  have:gs[n]=.inp:=by cases hg:gs[n] <;> first | rfl | (rw [hg] at hi; cases hi)
  simp [w.ins n (by rw [e,this])]
end
structure Two (net:List Gt) (os:List Nat) (W:Nat->Bool):Prop where
 ok:Oks net
 wd:Wd (gsF net) (os.map (rho (shr net).2)) W
abbrev told (net:List Gt) (W:Nat->Bool):List Gt:=sml (gsF net) W
section
variable {net:List Gt}{os:List Nat}{W:Nat->Bool}
theorem Two.si (t:Two net os W):SI net net.length (shr net):=by
 have si:=SI.all t.ok net.length (yP _)
 rwa [zu] at si
theorem Two.rf (t:Two net os W):RF net (shr net) net.length (gsF net):=RF.all t.si net.length (yP _)
theorem Two.at (t:Two net os W) (h:j < net.length):∃ p,(shr net).2[j]?=some p/\rho (shr net).2 j=p.1/\p.1 < (shr net).1.length:=t.si.rho h
theorem Two.ins (t:Two net os W) (hn:(gsF net)[n]?=some .inp):cnt Gt.isIn (told net W) (rk W (gsF net).length n)=((gsF net).take n).countP Gt.isIn:=by
 have hl:=(yR.mp hn).1;have hw:=t.wd.ins n hn;rw [gX,rk_w hw];unfold told sml sel;rw [<- List.map_take,jz W (by omega),A7,hG _ _ n (by omega)]
 unfold kp;rw [List.countP_filter];refine AX fun m hm=>?_
 have hm:=Ag.mp hm;have e:(gsF net)[m]?=some (gsF net)[m]:=yO (by omega)
 have eg:(gsF net).getD m .inp=(gsF net)[m]:=by rw [zi,e]; rfl
 simp only [Function.comp_apply,eg,lZ,yU];refine ⟨fun h=>h.1,fun h=>⟨h,t.wd.ins m ?_⟩⟩
 rw [e];cases hg:(gsF net)[m] <;> first | rfl | (rw [hg] at h; cases h)
theorem Two.pre (t:Two net os W) (hn:n<=(gsF net).length):((gsF net).take n).countP Gt.isIn=((shr net).1.take n).countP Gt.isIn:=by
 have rf:=t.rf;rw [hG _ _ n hn,hG _ _ n (by rw [<- rf.len]; exact hn)]
 refine AX fun m hm=>?_
 have hm:=Ag.mp hm;have e:(gsF net)[m]?=some (gsF net)[m]:=yO (by omega)
 rw [zi,zi];rcases rf.back e with ⟨_,e2⟩ | ⟨f,a,b,e1,e2⟩
 ·rw [e,e2]
 ·rw [e,e2,e1]; rfl
abbrev lostG (net:List Gt) (W:Nat->Bool):List Gt:=sel (gsF net) (rk W (gsF net).length) (kp (nW W) (gsF net).length)
abbrev prsS (net:List Gt) (W:Nat->Bool):List (Nat × Str):=(shr net).2.map fun p=>(rk W (gsF net).length p.1,p.2)
theorem nL (net:List Gt) (W:Nat->Bool):told net W++lostG net W=sel (gsF net) (rk W (gsF net).length) (od W (gsF net).length):=by
 unfold told sml lostG sel od;rw [Ap]
theorem jA (net:List Gt) (W:Nat->Bool):(told net W++lostG net W).length=(gsF net).length:=by
 rw [nL];unfold sel;rw [yS,fB]
theorem nM (h:n < N):rk W N n < N:=by
 have:=(yR.mp (iV (W:=W) h)).1
 rwa [fB] at this
theorem dG (h:(gsF net)[n]?=some g):(told net W++lostG net W)[rk W (gsF net).length n]?=some (g.ren (rk W (gsF net).length)):=by
 rw [nL];exact ma (iV (yR.mp h).1) h
theorem x6{p:Nat × Str} (h:(prsS net W)[j]?=some p):∃ q,(shr net).2[j]?=some q/\p=(rk W (gsF net).length q.1,q.2):=by
 rw [yY] at h;obtain ⟨q,e,rfl⟩:=zt.mp h;exact ⟨q,e,rfl⟩
theorem Two.rho (t:Two net os W) {a:Nat} (h:a < net.length):B17.rho (prsS net W) a=rk W (gsF net).length (B17.rho (shr net).2 a):=by
 obtain ⟨p,e1,e2,_⟩:=t.at h;rw [e2];unfold B17.rho prsS;rw [zi,yY,e1]; rfl
theorem Two.sim (t:Two net os W):Sim (shr net).1 (told net W++lostG net W) (rk W (gsF net).length):=fun n g hs e=>dG (t.rf.oth n g e (by cases g <;> first | rfl | (cases hs)))
theorem Two.laid (t:Two net os W) {j:Nat}{p:Nat × Str} (e:net[j]?=some g) (h:(shr net).2[j]?=some p):(g.src=true->p.2=g.wd)/\(g.src=false->phB (shr net).1 (B17.rho (shr net).2) p.1 p.2 g=true):=by
 have:=nJ t.ok net.length (yP _) j g p e (by rw [zu]; exact h)
 rwa [zu] at this
theorem Two.lost (t:Two net os W) (h:(lostG net W)[j]?=some g):g≠.inp/\g.ok ((told net W).length + j) ((told net W).length + (lostG net W).length):=by
 have lg:=gN t.ok;have al:=jA net W;rw [zk] at al;rw [al];obtain ⟨n,e1,rfl⟩:=me h;obtain ⟨w,hn,rfl⟩:=gO e1;have wn:W n=false:=by simpa [nW] using w
 have e:(gsF net)[n]?=some (gsF net)[n]:=yO hn;have eg:(gsF net).getD n .inp=(gsF net)[n]:=by rw [zi,e]; rfl
 rw [eg];have ok:=lg.ok n _ e;generalize (gsF net)[n]=h at e ok;have tl:(told net W).length=cW W (gsF net).length:=by unfold told sml sel cW kp; rw [yS]
 have up:∀ a,a < n->rk W (gsF net).length a < (told net W).length + cW (nW W) n:=fun a ha=>by
  rw [tl];unfold rk
  by_cases z:W a=true
  ·rw [yN z]
   have:=iU z (show a < (gsF net).length by omega)
   omega
  ·rw [yM z]
   have:=iU (W:=nW W) (by simp [nW,z]) ha
   omega
 cases h <;> simp only [Gt.ren,Gt.ok,ne_eq,reduceCtorEq,not_false_eq_true,true_and,not_true_eq_false] at *
 case inp=>have:=t.wd.ins n e; rw [wn] at this; cases this
 case keep f a=>exact ⟨ok.1,ok.2.1,nM ok.2.2⟩
 case not a=>exact up a ok
 case and a b=>exact ⟨up a ok.1,up b ok.2⟩
 case or a b=>exact ⟨up a ok.1,up b ok.2⟩
 case xor a b=>exact ⟨up a ok.1,up b ok.2⟩
 case pick a b c=>exact ⟨up a ok.1,up b ok.2.1,up c ok.2.2⟩
theorem nP {t:Gt->Bool}:∀ {k j n:Nat},(numsOf t gs k)[j]?=some n->k<=n/\∃ g,gs[n - k]?=some g/\t g=true/\j=(gs.take (n - k)).countP t:=by
 induction gs with
 | nil=>intro k j n h; simp [numsOf] at h
 | cons g gs ih =>
  intro k j n h;have nx:∀ j',(numsOf t gs (k + 1))[j']?=some n->k<=n/\(∃ g',(g :: gs)[n - k]?=some g'/\t g'=true)/\j' + (if t g then 1 else 0)=((g :: gs).take (n - k)).countP t:=fun j' h'=>by
   obtain ⟨l,g',e1,e2,e3⟩:=ih h';have:n - k=(n - (k + 1)) + 1:=by omega
   rw [this];refine ⟨by omega,⟨g',by simpa using e1,e2⟩,?_⟩
   rw [List.take_succ_cons,AI,<- e3]
  simp only [numsOf] at h;cases ht:t g with
  | false =>
   rw [ht] at h;obtain ⟨a,⟨g',b,c⟩,d⟩:=nx j (by simpa using h)
   rw [ht] at d;exact ⟨a,g',b,c,by simpa using d⟩
  | true =>
   rw [ht,yN rfl] at h;cases j with
   | zero =>
    simp at h;subst h;exact ⟨yP _,g,by simp,ht,by simp⟩
   | succ j =>
    obtain ⟨a,⟨g',b,c⟩,d⟩:=nx j (by simpa using h)
    rw [ht] at d;exact ⟨a,g',b,c,by simpa using d⟩
theorem Two.sho (t:Two net os W) (lo:∀ o∈os,o < net.length):Sho net os (told net W) (os.map fun o=>rk W (gsF net).length (B17.rho (shr net).2 o)) (lostG net W) (prsS net W):=by
 have lg:=gN t.ok;refine ⟨t.ok,by rw [yS]; exact lg.pl,fun p hp=>?_,fun j g h=>t.lost h,?_,fun j n m h1 h2=>?_,by rw [yS],fun j o m h1 h2=>?_,fun i g p e1 ni e2=>?_⟩
 ·rw [jA]
  obtain ⟨q,hq,rfl⟩:=Aa.mp hp;obtain ⟨i,hi⟩:=Av hq;exact nM (lg.pt i q hi)
 ·rw [fH,fH]
  exact (x5 t.wd lg).symm
 ·obtain ⟨_,g,e1,e2,e3⟩:=nP h1
  rw [Nat.sub_zero] at e1 e3;have:g=.inp:=by cases g <;> first | rfl | (cases e2)
  subst this;obtain ⟨p,e4,e5,e6⟩:=t.at (yR.mp e1).1;have e7:=t.si.src n .inp p e1 e4 rfl;have e8:=t.rf.oth _ _ e7 rfl;have e9:=t.ins e8;rw [t.pre (by rw [t.rf.len]; omega),t.si.od n .inp p e1 e4 rfl Gt.isIn (fun g h=>by cases g <;> first | rfl | (cases h)),<- e3] at e9
  have ea:=fK (t:=Gt.isIn) (mf t.wd (t.wd.ins _ e8) e8) rfl;rw [show cnt Gt.isIn (sml (gsF net) W) (rk W (gsF net).length p.1)=j from e9] at ea;have eb:(numsOf Gt.isIn (sml (gsF net) W) 0)[j]?=some m:=h2;rw [ea] at eb;cases eb;rw [yY,e4];show some (_,p.2)=_;rw [(t.laid e1 e4).1 rfl]; rfl
 ·rw [yY,h1] at h2
  cases h2;obtain ⟨p,e4,e5,e6⟩:=t.at (lo o (zc h1));refine ⟨p.2,?_⟩;rw [yY,e4];show some (rk W (gsF net).length p.1,p.2)=some (rk W (gsF net).length (B17.rho (shr net).2 o),p.2);rw [e5]
 ·obtain ⟨q,e3,rfl⟩:=x6 e2
  have ok:=t.ok i g e1;cases hs:g.src with
  | true =>
   cases g with
   | keep f a =>
    have ee:=(t.laid e1 e3).1 rfl;have ef:=t.rf.fed i f a q (yR.mp e1).1 e1 e3;show (decide (q.2=_) && decide (_=_))=true;rw [yU];refine ⟨y8 ee,y8 ?_⟩;rw [t.rho ok.2.2];exact dG ef
   | inp=>exact absurd rfl ni
   | _=>cases hs
  | false =>
   have:=t.sim.ph hs ((t.laid e1 e3).2 hs);rw [<- this];refine jy fun a ha=>t.rho ?_
   have:=da ok hs a ha;have:=(yR.mp e1).1;omega
end
end

section
def ev (v:Nat->Bool):Gt->Bool
 | .inp=>false
 | .keep _ _=>false
 | .zero=>false
 | .one=>true
 | .not a=>!v a
 | .and a b=>v a && v b
 | .or a b=>v a || v b
 | .xor a b=>xor (v a) (v b)
 | .pick a b c=>if v a then v b else v c
def Val (gs:List Gt) (v:Nat->Bool):Prop:=∀ (n:Nat) (g:Gt),gs[n]?=some g->g.src=false->v n=ev v g
theorem cx {gs:List Gt} (w:Val gs v) (h:isZ gs n=true):v n=false:=w n _ (zL h) rfl
theorem cy {gs:List Gt} (w:Val gs v) (h:isO gs n=true):v n=true:=w n _ (zL h) rfl
theorem eO {gs:List Gt} (w:Val gs v) {a b:Nat} (h:opsd gs a b=true):v a=!v b:=by
 unfold opsd at h;rw [zO] at h;rcases h with h | h
 ·exact w a _ (zL h) rfl
 ·rw [w b _ (zL h) rfl]; simp [ev]
def bt (gs:List Gt) (row kept:List Bool) (n:Nat):Bool:=(upto gs row kept gs.length).getD n false
theorem hJ{a i:Nat} (ha:a < i):∀ {m:Nat},i<=m->m<=gs.length->(upto gs row kept m)[a]?=(upto gs row kept i)[a]?
 | 0,h,_=>by omega
 | m + 1,h,hm=>by
  by_cases e:i=m + 1
  ·subst e; rfl
  ·have eg:gs[m]?=some gs[m]:=yO (by omega)
   rw [fD eg,zb (by rw [eN (by omega)]; omega)]
   exact hJ ha (by omega) (by omega)
theorem fL{row kept:List Bool} (e:gs[n]?=some g):bt gs row kept n=evalG row kept (cnt Gt.isIn gs n) (cnt Gt.isKeep gs n) (upto gs row kept n) g/\∀ a,a < n->(upto gs row kept n).getD a false=bt gs row kept a:=by
 have hn:=(yR.mp e).1;refine ⟨?_,fun a ha=>?_⟩
 ·unfold bt
  rw [zi,hJ (i:=n + 1) (by omega) (by omega) (yP _),fD e,zw (by rw [eN (by omega)]; exact yP _),eN (by omega),Nat.sub_self]
  rfl
 ·unfold bt
  rw [zi,zi,hJ ha (by omega) (yP _)]
theorem nQ (ok:Oks gs):Val gs (bt gs row kept):=fun n g e hs=>by
 obtain ⟨h1,h2⟩:=fL (row:=row) (kept:=kept) e;have fo:=da (ok n g e) hs;rw [h1];cases g <;> simp only [evalG,ev,Gt.feeds,yZ,ze,zh,zI] at *
 case inp=>cases hs
 case keep=>cases hs
 case not a=>rw [h2 a (fo a rfl)]
 case and a b=>rw [h2 a (fo a (.inl rfl)),h2 b (fo b (.inr rfl))]
 case or a b=>rw [h2 a (fo a (.inl rfl)),h2 b (fo b (.inr rfl))]
 case xor a b=>rw [h2 a (fo a (.inl rfl)),h2 b (fo b (.inr rfl))]
 case pick a b c=>rw [h2 a (fo a (.inl rfl)),h2 b (fo b (.inr (.inl rfl))),h2 c (fo c (.inr (.inr rfl)))]
def kb (gs:List Gt) (kept:List Bool) (n:Nat):Bool:=kept.getD (cnt Gt.isKeep gs n) false
theorem nR{B:List Bool}{a:Nat}{f:Int} (e:gs[n]?=some (.keep f a)):kb gs (later B gs) n=B.getD a false:=by
 obtain ⟨f',a',e1,e2⟩:=mU B (fK (t:=Gt.isKeep) e rfl);rw [e] at e1;cases e1;unfold kb;rw [zi,e2]; rfl
theorem nS{a:Nat}{f:Int} (e:gs[n]?=some (.keep f a)):kb gs (firsts gs) n=decide (f=1):=by
 obtain ⟨f',a',e1,e2⟩:=mR (fK (t:=Gt.isKeep) e rfl);rw [e] at e1;cases e1;unfold kb;rw [zi,e2]; rfl
section
variable {al:List Gt}{v:Nat->Bool}{ρ:Nat->Nat}{it x y z:Nat}{why:Str}
theorem x8 (w:Val al v) (h:notB al why it x=true):v it=!v x:=by
 unfold notB at h
 split at h
 ·rw [w x _ (zL h) rfl]; simp [ev]
 split at h
 ·rw [yU] at h; rw [cy w h.2,cx w h.1]; rfl
 split at h
 ·rw [yU] at h; rw [cx w h.2,cy w h.1]; rfl
 ·cases h
theorem x9 (w:Val al v) (h:andB al why it x y=true):v it=(v x && v y):=by
 unfold andB at h
 split at h
 ·simp only [yU,zO,zC] at h
  obtain ⟨rfl,h | rfl⟩:=h
  ·simp [cy w h]
  ·simp
 split at h
 ·simp only [yU,zC] at h
  obtain ⟨rfl,h⟩:=h;simp [cy w h]
 split at h
 ·simp only [yU,zO] at h
  rw [cx w h.1];rcases h.2 with h | h | h
  ·simp [cx w h]
  ·simp [cx w h]
  ·simp [eO w h]
 ·cases h
theorem ya (w:Val al v) (h:orB al why it x y=true):v it=(v x || v y):=by
 unfold orB at h
 split at h
 ·simp only [yU,zO,zC] at h
  obtain ⟨rfl,h | rfl⟩:=h
  ·simp [cx w h]
  ·simp
 split at h
 ·simp only [yU,zC] at h
  obtain ⟨rfl,h⟩:=h;simp [cx w h]
 split at h
 ·simp only [yU,zO] at h
  rw [cy w h.1];rcases h.2 with h | h | h
  ·simp [cy w h]
  ·simp [cy w h]
  ·simp [eO w h]
 ·cases h
theorem yb (w:Val al v) (h:xorB al why it x y=true):v it=xor (v x) (v y):=by
 unfold xorB at h
 split at h
 ·simp only [yU,zC] at h
  obtain ⟨rfl,h⟩:=h;simp [cx w h]
 split at h
 ·simp only [yU,zC] at h
  obtain ⟨rfl,h⟩:=h;simp [cx w h]
 split at h
 ·simp only [yU,zC] at h
  obtain ⟨h,rfl⟩:=h;simp [cx w h]
 split at h
 ·simp only [yU] at h
  simp [cy w h.1,eO w h.2]
 split at h
 ·simp only [yU,zO] at h
  rcases h with h | h
  ·simp [cy w h.1,eO w h.2]
  ·simp [cy w h.1,eO w h.2]
 ·cases h
theorem yc (w:Val al v) (h:pickB al why it x y z=true):v it=if v x then v y else v z:=by
 unfold pickB at h
 split at h
 ·simp only [yU,zO,zC] at h
  obtain ⟨rfl,h | rfl⟩:=h
  ·simp [cy w h]
  ·simp
 split at h
 ·simp only [yU,zC] at h
  obtain ⟨rfl,h⟩:=h;simp [cx w h]
 split at h
 ·simp only [yU,zC] at h
  obtain ⟨rfl,h1,h2⟩:=h;rw [cy w h1,cx w h2]; cases v it <;> rfl
 split at h
 ·simp only [yU] at h
  rw [eO w h.1,cx w h.2.1,cy w h.2.2]; cases v x <;> rfl
 ·cases h
theorem yd (g:Gt):ev v (g.ren ρ)=ev (fun a=>v (ρ a)) g:=by cases g <;> rfl
theorem ye (h:g.two=true):ev v (g.trn ρ)=ev (fun a=>v (ρ a)) g:=by
 cases g <;> first | (cases h; done) | exact Bool.and_comm _ _ | exact Bool.or_comm _ _ | exact Bool.xor_comm _ _
theorem yf (w:Val al v) (hs:g.src=false) (h:phB al ρ it why g=true):v it=ev (fun a=>v (ρ a)) g:=by
 have hk:g.isKeep=false:=by cases g <;> first | rfl | (cases hs)
 by_cases e:why = "same"
 ·rw [e,dB hk] at h
  rw [w it _ (zL h) (by rw [vY]; exact hs),yd]
 by_cases e2:why = "turned" /\ g.two=true
 ·rw [e2.1,fC e2.2] at h
  have h:=zL h;rw [w it _ h (by cases g <;> first | rfl | (cases hs)),ye e2.2]
 rw [bj hk e e2] at h;cases g <;> first | (cases hs; done) | (cases h; done) | exact x8 w h | exact x9 w h | exact ya w h | exact yb w h | exact yc w h
end
section
variable {sg lo:List Gt}{row k2 kl:List Bool}
theorem yg (ok:Oks sg) (lk:∀ (j:Nat) (g:Gt),lo[j]?=some g->g≠.inp/\g.ok (sg.length + j) (sg.length + lo.length)):Oks (sg++lo):=fun i g e=>by
 rw [zk]
 by_cases hi:i < sg.length
 ·rw [zb hi] at e
  have:=ok i g e;cases g <;> simp only [Gt.ok] at * <;> first | exact this | omega
 ·rw [zw (by omega)] at e
  have:=(lk _ g e).2
  rwa [Nat.add_sub_cancel' (by omega)] at this
theorem jB (t:Gt->Bool) (h:i<=sg.length):cnt t (sg++lo) i=cnt t sg i:=by
 unfold cnt;rw [A9 h]
theorem nU (hk:k2.length=(numsOf Gt.isKeep sg 0).length):∀ {i:Nat},i<=sg.length->upto (sg++lo) row (k2++kl) i=upto sg row k2 i
 | 0,_=>rfl
 | i + 1,h=>by
  have e:sg[i]?=some sg[i]:=yO (by omega)
  have e2:(sg++lo)[i]?=some sg[i]:=by rw [zb (by omega)]; exact e
  rw [fD e,fD e2,nU hk (i:=i) (by omega),jB _ (by omega),jB _ (by omega)]
  generalize hg:sg[i]=g at e;cases g <;> first | rfl | skip
  rename_i f a;have l:=(yR.mp (fK (t:=Gt.isKeep) e rfl)).1;show _++[(k2++kl).getD _ false]=_++[k2.getD _ false];rw [zi,zb (by rw [hk]; exact l),zi]
theorem nX (hk:k2.length=(numsOf Gt.isKeep sg 0).length) {a:Nat} (ha:a < sg.length):(upto (sg++lo) row (k2++kl) (sg++lo).length).getD a false=(upto sg row k2 sg.length).getD a false:=by
 rw [zi,hJ ha (by rw [zk]; omega) (yP _),nU hk (yP _),zi]
theorem nY:∀ (a b:List Gt),firsts (a++b)=firsts a++firsts b
 | [],_=>rfl
 | g :: a,b=>by cases g <;> simp [firsts,nY a b]
theorem nZ (B:List Bool):∀ (a b:List Gt),later B (a++b)=later B a++later B b
 | [],_=>rfl
 | g :: a,b=>by cases g <;> simp [later,nZ B a b]
theorem oa {B B':List Bool}:∀ (a:List Gt),(∀ f x,Gt.keep f x∈a->B.getD x false=B'.getD x false)->later B a=later B' a
 | [],_=>rfl
 | g :: a,h=>by
  have ih:=oa a fun f x m=>h f x (Ah _ m)
  cases g <;> simp only [later,ih]
  case keep f x=>rw [h f x An]
end
def Rl (net al:List Gt) (prs:List (Nat × Str)) (k1 k3:List Bool):Prop:=∀ (j:Nat) (f:Int) (a:Nat),net[j]?=some (.keep f a)->kb al k3 (rho prs j)=kb net k1 j
structure Pap (net:List Gt) (os:List Nat) (sg:List Gt) (so:List Nat) (lo:List Gt) (prs:List (Nat × Str)):Prop where
 p:Ppr net os sg lo prs
 s:Oks sg
 o:∀ o∈so,o < sg.length
 t:shB net os sg so lo prs=true
section
variable {net sg lo:List Gt}{os so:List Nat}{prs:List (Nat × Str)}{row k1 k2 k3:List Bool}
theorem Pap.at_ (h:Pap net os sg so lo prs) (e:net[j]?=some g):∃ p,prs[j]?=some p/\rho prs j=p.1/\(g.isIn=false->phB (sg++lo) (rho prs) p.1 p.2 g=true):=by
 have hj:=(yR.mp e).1;have hp:j < prs.length:=by rw [h.p.len]; exact hj
 have ep:prs[j]?=some prs[j]:=yO hp;have t:=h.t;unfold shB ghB at t;rw [yU,yU,AU (p:=okG _ _)] at t;have:=t.2.2 (g,prs[j]) (zc (zP.mpr ⟨e,ep⟩));refine ⟨_,ep,g8 ep,fun z=>?_⟩
 unfold okG at this
 rwa [show (g,prs[j]).1.isIn=false from z,Bool.false_or] at this
theorem Pap.ins (h:Pap net os sg so lo prs) (e:net[j]?=some .inp):(sg++lo)[rho prs j]?=some .inp/\cnt Gt.isIn (sg++lo) (rho prs j)=cnt Gt.isIn net j:=by
 have t:=h.t;unfold shB ihB at t;rw [yU,yU,zC,AU (p:=okI _)] at t;have e1:=fK (t:=Gt.isIn) e rfl;have l:=(yR.mp e1).1;rw [t.1.1] at l;have e2:=yO l;have:=t.1.2 (j,_) (zc (zP.mpr ⟨e1,e2⟩));have ep:=zL this;rw [g8 ep];obtain ⟨_,g,f1,f2,f3⟩:=nP e2;rw [Nat.sub_zero] at f1 f3;have hm:=(yR.mp f1).1;have:g=.inp:=by cases g <;> first | rfl | (cases f2)
 subst this;refine ⟨by rw [zb hm]; exact f1,?_⟩
 rw [jB _ (zF hm),gX];exact f3.symm
theorem Pap.play (h:Pap net os sg so lo prs) (rl:Rl net (sg++lo) prs k1 k3):∀ (j:Nat),j < net.length->bt (sg++lo) row k3 (rho prs j)=bt net row k1 j:=by
 have oka:=yg h.s h.p.lk;intro j
 induction j using Nat.strongRecOn with
 | _ j ih =>
  intro hj;obtain ⟨g,e⟩:∃ g,net[j]?=some g:=⟨_,yO hj⟩;obtain ⟨p,e1,e2,e3⟩:=h.at_ e;cases hs:g.src with
  | true =>
   cases g <;> first | (cases hs; done) | skip
   ·obtain ⟨a,b⟩:=h.ins e
    rw [(fL a).1,(fL e).1];show row.getD _ false=row.getD _ false;rw [b]
   ·rename_i f a
    have ph:=e3 rfl;have ek:(sg++lo)[rho prs j]?=some (.keep f (rho prs a)):=by
     have ph:(decide (p.2 = "keep") && decide ((sg++lo)[p.1]?=some (.keep f (rho prs a))))=true:=ph;rw [yU] at ph;rw [e2]; exact zL ph.2
    rw [(fL ek).1,(fL e).1];exact rl j f a e
  | false =>
   have ph:=e3 (by cases g <;> first | rfl | (cases hs))
   rw [e2,yf (nQ oka) hs ph,nQ h.p.ok j g e hs];have fo:=da (h.p.ok j g e) hs;have hf:∀ a∈g.feeds,bt (sg++lo) row k3 (rho prs a)=bt net row k1 a:=fun a m=>ih a (fo a m) (by have:=fo a m; omega)
   cases g <;> simp only [ev,Gt.feeds,yZ,ze,zh,zI] at *
   case not a=>rw [hf a rfl]
   case and a b=>rw [hf a (.inl rfl),hf b (.inr rfl)]
   case or a b=>rw [hf a (.inl rfl),hf b (.inr rfl)]
   case xor a b=>rw [hf a (.inl rfl),hf b (.inr rfl)]
   case pick a b c=>rw [hf a (.inl rfl),hf b (.inr (.inl rfl)),hf c (.inr (.inr rfl))]
theorem Pap.keep (h:Pap net os sg so lo prs) {a:Nat}{f:Int} (e:net[j]?=some (.keep f a)):(sg++lo)[rho prs j]?=some (.keep f (rho prs a)):=by
 obtain ⟨p,e1,e2,e3⟩:=h.at_ e;have ph:(decide (p.2 = "keep") && decide ((sg++lo)[p.1]?=some (.keep f (rho prs a))))=true:=e3 rfl;rw [yU] at ph;rw [e2]; exact zL ph.2
def Alk (net sg lo:List Gt) (prs:List (Nat × Str)) (k1 k2:List Bool):Prop:=k2.length=(numsOf Gt.isKeep sg 0).length/\∃ kl,Rl net (sg++lo) prs k1 (k2++kl)
theorem Pap.first (h:Pap net os sg so lo prs):Alk net sg lo prs (firsts net) (firsts sg) :=
 ⟨gW sg 0,firsts lo,fun j f a e=>by rw [<- nY,nS e,nS (h.keep e)]⟩
theorem Pap.next (h:Pap net os sg so lo prs) (r:Alk net sg lo prs k1 k2):Alk net sg lo prs (later (upto net row k1 net.length) net) (later (upto sg row k2 sg.length) sg):=by
 obtain ⟨hk,kl,rl⟩:=r;refine ⟨gY _ sg 0,later (upto (sg++lo) row (k2++kl) (sg++lo).length) lo,fun j f a e=>?_⟩
 have ee:later (upto sg row k2 sg.length) sg=later (upto (sg++lo) row (k2++kl) (sg++lo).length) sg:=oa sg fun f x m=>by
  obtain ⟨i,hi⟩:=Av m;exact (nX hk (h.s i _ hi).2.2).symm
 rw [ee,<- nZ,nR e,nR (h.keep e)];exact h.play rl a (h.p.ok j _ e).2.2
theorem Pap.outs (h:Pap net os sg so lo prs) (r:Alk net sg lo prs k1 k2):(so.map fun o=>bV ((upto sg row k2 sg.length).getD o false))=os.map fun o=>bV ((upto net row k1 net.length).getD o false):=by
 obtain ⟨hk,kl,rl⟩:=r;have t:=h.t;unfold shB ohB at t;rw [yU,yU,yU,zC,AU (p:=okO _)] at t;obtain ⟨_,⟨le,al⟩,_⟩:=t;refine A5 fun i=>?_
 rw [yY,yY]
 by_cases hi:i < os.length
 ·have e1:=yO hi
  have e2:=yO (show i < so.length by omega)
  have:=zL (al (_,_) (zc (zP.mpr ⟨e1,e2⟩)));have p:=h.play (row:=row) rl _ (h.p.lo _ (zc e1));rw [show rho prs os[i]=so[i] from this] at p;unfold bt at p;rw [nX hk (h.o _ (zc e2))] at p;rw [e1,e2];exact za (fun b=>some (bV b)) p
 ·rw [Ad (by omega),Ad (by omega)]; rfl
theorem Pap.rn (h:Pap net os sg so lo prs):(numsOf Gt.isIn sg 0).length=(numsOf Gt.isIn net 0).length:=by
 have t:=h.t;unfold shB ihB at t;rw [yU,yU,zC] at t;exact t.1.1.symm
theorem Sho.p (h:Sho net os sg so lo prs) (lo':∀ o∈os,o < net.length):Ppr net os sg lo prs:=⟨h.ok,h.len,h.lt,h.lk,lo'⟩
theorem Sho.t (h:Sho net os sg so lo prs):shB net os sg so lo prs=true:=by
 unfold shB ihB ohB ghB;rw [yU,yU,yU,yU,zC,zC];refine ⟨⟨h.il,gZ fun i n m e1 e2=>y8 (h.ins i n m e1 e2)⟩,⟨h.ol,gZ fun i o m e1 e2=>?_⟩,gZ fun i g p e1 e2=>?_⟩
 ·obtain ⟨y,e⟩:=h.outs i o m e1 e2
  exact y8 (g8 e)
 ·unfold okG
  cases g with
  | inp=>rfl
  | _=>rw [show Gt.isIn _=false from rfl,Bool.false_or]; exact h.gts i _ p e1 (by intro z; cases z) e2
end
end

section
theorem heads2 (g:Gt):∃ (wd:Str) (rs:List V),g.vs=.str wd :: rs/\decide (V.str wd=V.str "keep")=g.isKeep/\decide (V.str wd=V.str "in")=g.isIn:=by
 obtain ⟨wd,rs,e,h⟩:=gG g;obtain ⟨wd2,rs2,e2,h2⟩:=ft g;rw [e] at e2;cases e2;exact ⟨wd,rs,e,h,h2⟩
theorem mk6 (h:j < 6):j=0\/j=1\/j=2\/j=3\/j=4\/j=5:=(by decide:∀ j,j < 6->j=0\/j=1\/j=2\/j=3\/j=4\/j=5) j h
theorem yh {g:Gt}{wd:Str}{rs:List V}{t:Nat} (e:g.vs=.str wd :: rs) (k:g.isKeep=false) (l:rs.length=2) (ok:g.ok n t):∃ a b:Nat,rs=[.int a,.int b]/\a < n/\b < n:=by
 cases g <;> simp only [Gt.vs,List.cons.injEq] at e <;> obtain ⟨_,rfl⟩:=e <;> first | (cases l; done) | (cases k; done) | exact ⟨_,_,rfl,ok.1,ok.2⟩
section
variable {P:Program}{w:World}{K:PySem.W.Frag}{mg:Str->Option Value}{base:Heap}{f:Addr}{fd:FuncData}{k:Nat}
theorem av60:AF (defScope (top 60)) ["_law_gates", "_law_k", "_law_m", "_law_gate", "_law_one", "_law_other", "_law_some"]:=⟨∅⟩
theorem gl60:AG (defScope (top 60)) ["len"]:=⟨∅⟩
def spBG:Sp:=fun vs H Q _=>∃ (gl:Addr) (gs:List Gt) (xs:List V) (n:Nat) (n' m:Int) (g:Gt),vs=[.ref gl,.int n',.int m]/\n'=(n:Int)/\H gl=some (.lst xs)/\Gs H gs xs/\gs[n]?=some g/\g.ok n gs.length/\gs.length<=1000/\0<=m /\
 ∀ (p:Addr) (g':Gt) (H':Hp),Ch [] H H'->H' p=some (.tup g'.vs)->g'.ok n gs.length->g'.isIn=g.isIn->Q (.ref p) H'
theorem scBG:FnScope ["_law_gates", "_law_k", "_law_m", "_law_gate", "_law_one", "_law_other", "_law_some"] ["_law_gates", "_law_k", "_law_m"] (defScope (top 60)):=⟨rfl,rfl,rfl,∅,rfl,∅,∅⟩
theorem yi (F:Fun K "_law_bent_gate" "_law_bent_gate" (top 60) f fd) (z_len:mg "len" = none):FnOk P w K mg base CX0 (k + 1) f fd ["_law_gates", "_law_k", "_law_m"] spBG:=by
 have nd:=scBG.nd;refine F.ok scBG (fun vs H Q E h=>by obtain ⟨gl,gs,xs,n,n',m,g,rfl,_⟩:=h; rfl) (fun cdv A outer s H vs Q E hr h=>?_)
 obtain ⟨gl,gs,xs,n,n',m,g,rfl,rfl,hgl,gg,eg,ok,l1,m0,q⟩:=h;refine ⟨_,(Pr.h (aj (aE (i:=3) nd rfl (av60.l 3 rfl) (ak aC (qv av60 0 rfl) (qv av60 1 rfl) (fun _ _=>rfl))) (aj (aw (ay aB (ak aH (qv av60 3 rfl) ag (fun _ _=>rfl)) aq (nomark _)) (ai (au (ak aC (bD (aa (aD (aa aq (aa (ar dC ag (ak aH (qv av60 3 rfl) ag (fun _ _=>rfl))) (aa (ak aH (qv av60 3 rfl) ag (fun _ _=>rfl)) ab aK) bh) ax)) (aa (aD (aa aq (aa (ak aH (qv av60 3 rfl) ag (fun _ _=>rfl)) (aa (ar aQ (ar aZ (qv av60 2 rfl) ag) (aF aL (gl60.g 0 rfl) z_len yX (aa (qv av60 0 rfl) ab ae) aM aO)) ab bh) aK) ax)) ab bw) bw)) (ar aQ (qv av60 2 rfl) ag) (fun _ _=>rfl)))) az) (aj (aw (br (bK (ay aB (ak aH (qv av60 3 rfl) ag (fun _ _=>rfl)) aq (nomark _)) (bR (ay aB (qv av60 1 rfl) ag (nomark _))))) (ai (au (qv av60 3 rfl))) az) (aj (aE (i:=4) nd rfl (av60.l 4 rfl) (ar aQ (ar aZ (qv av60 2 rfl) ag) (qv av60 1 rfl))) (aj (aE (i:=5) nd rfl (av60.l 5 rfl) (ar aQ (ar aZ (qv av60 2 rfl) ag) (qv av60 1 rfl))) (aj (aE (i:=6) nd rfl (av60.l 6 rfl) (bD (aa (aD (aa aq (aa (qv av60 4 rfl) (aa (qv av60 5 rfl) ab ae) ae) ax)) (aa (aD (aa aq (aa (qv av60 4 rfl) (aa (qv av60 5 rfl) ab ae) ae) ax)) (aa (aD (aa aq (aa (qv av60 4 rfl) (aa (qv av60 5 rfl) ab ae) ae) ax)) (aa (aD (aa aq (aa (qv av60 4 rfl) ab ae) ax)) (aa (aD (aa aq ab ax)) (aa (aD (aa aq ab ax)) ab bw) bw) bw) bw) bw) bw))) (aj (aw (br (bZ (ay aB (aF aL (gl60.g 0 rfl) z_len yX (aa (qv av60 3 rfl) ab ae) aM aO) ag (nomark _)) (cI (ay eQ (ar aQ (qv av60 2 rfl) ag) ag (nomark _))))) (ai (au (aD (aa (ak aC (bD (aa aq (aa aq (aa aq ab ax) ax) ax)) (ar aQ (ar aZ (qv av60 2 rfl) ag) ag) (fun _ _=>rfl)) (aa (ak aH (qv av60 3 rfl) ag (fun _ _=>rfl)) (aa (ak aH (qv av60 3 rfl) ag (fun _ _=>rfl)) ab aK) aK) aK)))) az) (ai (au (ak aC (qv av60 6 rfl) (ar aQ (ar aZ (qv av60 2 rfl) ag) ag) (fun _ _=>rfl)))))))))))),?_⟩
 (try dsimp only [cxOf])
 obtain ⟨p,ep,hp⟩:=gg.at_ n g eg;have hn:n < gs.length:=(yR.mp eg).1;have at1:=bA ep;have lx:=gg.len;cases hk:g.isKeep with
 | true =>
  cases g <;> first | (cases hk; done) | skip
  rename_i ff a;have hp:H p=some (.tup [.str "keep",.int ff,.int a]):=hp;obtain ⟨o1,eo1⟩:∃ o:Nat,m / 7 % (xs.length:Int)=(o:Int):=zQ (zD _ (by omega))
  have lo1:o1 < gs.length:=by have:=zE (m / 7) (show 0 < (xs.length:Int) by omega); omega
  have m2:m % 2=0\/m % 2=1:=by omega
  obtain ⟨f0,f1,al⟩:0<=ff/\ff < 2/\a < gs.length:=ok;have sh:∀ (p':Addr) (ff':Int) (a':Nat) (H':Hp),Ch [] H H'->H' p'=some (.tup [.str "keep",.int ff',.int (a':Int)])->0<=ff'->ff' < 2->a' < gs.length->Q (.ref p') H':=fun p' ff' a' H' c e b0 b1 b2=>q p' (.keep ff' a') H' c e ⟨b0,b1,b2⟩ rfl
  walk_at "rd";rename_i p1 h1 p2 h2 p3 h3;have c1:=(Ch.new (W:=[]) h1 (.tup [V.str (Str.ofString "keep"),.int (1 - ff),V.int a])).trans (Ch.new h2 (.tup [.str (Str.ofString "keep"),.int ff,.int (m / 7 % (xs.length:Int))]));have c2:=c1.trans (Ch.new h3 (.lst [.ref p1,.ref p2]));rcases m2 with e | e <;> rw [e]
  ·walk_at "rd"
   exact sh p1 _ a _ c2 (aA h3 (aA h2 ah)) (by omega) (by omega) al
  ·walk_at "rd"
   exact sh p2 ff o1 _ c2 (aA h3 (by rw [<- eo1]; exact ah)) f0 f1 lo1
 | false =>
  obtain ⟨wd,rs,ev,hd,hi⟩:=heads2 g;rw [hk] at hd;have hp1:=hp;rw [ev] at hp1;walk_at "rd";rw [hd];refine iteF ?_;walk_at "rd";rw [hi];cases ei:g.isIn with
  | true =>
   refine iteT ?_;walk_at "rd";exact q p g _ (Ch.refl _ _) hp ok rfl
  | false =>
  refine iteF ?_;walk_at "rd";refine ite2 (fun _=>?_) (fun hz=>?_)
  ·walk_at "rd"
   exact q p g _ (Ch.refl _ _) hp ok rfl
  have n0:0 < (n:Int):=by
   have:n≠0:=fun z=>hz (y8 (by rw [z]; rfl))
   omega
  obtain ⟨o1,eo1⟩:∃ o:Nat,m / 7 % (n:Int)=(o:Int):=zQ (zD _ (by omega))
  obtain ⟨o2,eo2⟩:∃ o:Nat,m / 91 % (n:Int)=(o:Int):=zQ (zD _ (by omega))
  have lo1:o1 < n:=by have:=zE (m / 7) n0; omega
  have lo2:o2 < n:=by have:=zE (m / 91) n0; omega
  walk_at "rd";rename_i p1 h1 p2 h2 p3 h3 p4 h4 p5 h5 p6 h6 p7 h7
  dsimp only at h1 h2 h3 h4 h5 h6 h7 ⊢
  simp only [eo1,eo2] at h1 h2 h3 h4 h5 h6 h7 ⊢;obtain ⟨HC,eHC⟩:∃ HC,upd (upd (upd (upd (upd (upd (upd H p1 (.tup [.str "and",.int o1,.int o2])) p2 (.tup [.str "or",.int o1,.int o2])) p3 (.tup [.str "xor",.int o1,.int o2])) p4 (.tup [.str "not",.int o1])) p5 (.tup [.str "zero"])) p6 (.tup [.str "one"])) p7 (.lst [.ref p1,.ref p2,.ref p3,.ref p4,.ref p5,.ref p6])=HC:=⟨_,rfl⟩;have cc:Ch [] H HC:=eHC ▸ ((((((Ch.new h1 _).trans (Ch.new h2 _)).trans (Ch.new h3 _)).trans (Ch.new h4 _)).trans (Ch.new h5 _)).trans (Ch.new h6 _)).trans (Ch.new h7 _);have f7:HC p7=some (.lst [.ref p1,.ref p2,.ref p3,.ref p4,.ref p5,.ref p6]):=eHC ▸ ah;have f6:HC p6=some (.tup Gt.one.vs):=eHC ▸ aA h7 ah;have f5:HC p5=some (.tup Gt.zero.vs):=eHC ▸ aA h7 (aA h6 ah);have f4:HC p4=some (.tup (Gt.not o1).vs):=eHC ▸ aA h7 (aA h6 (aA h5 ah));have f3:HC p3=some (.tup (Gt.xor o1 o2).vs):=eHC ▸ aA h7 (aA h6 (aA h5 (aA h4 ah)));have f2:HC p2=some (.tup (Gt.or o1 o2).vs):=eHC ▸ aA h7 (aA h6 (aA h5 (aA h4 (aA h3 ah))));have f1:HC p1=some (.tup (Gt.and o1 o2).vs):=eHC ▸ aA h7 (aA h6 (aA h5 (aA h4 (aA h3 (aA h2 ah)))));have fin:Atx [V.ref p1,V.ref p2,V.ref p3,V.ref p4,V.ref p5,V.ref p6] (m / 3 % 6) (fun v=>Q v HC):=by
   obtain ⟨o3,eo3⟩:∃ o:Nat,m / 3 % 6=(o:Int):=zQ (by omega)
   rw [eo3];rcases mk6 (show o3 < 6 by omega) with rfl | rfl | rfl | rfl | rfl | rfl
   ·exact Atx.of rfl (q p1 _ _ cc f1 ⟨lo1,lo2⟩ ei.symm)
   ·exact Atx.of rfl (q p2 _ _ cc f2 ⟨lo1,lo2⟩ ei.symm)
   ·exact Atx.of rfl (q p3 _ _ cc f3 ⟨lo1,lo2⟩ ei.symm)
   ·exact Atx.of rfl (q p4 _ _ cc f4 lo1 ei.symm)
   ·exact Atx.of rfl (q p5 _ _ cc f5 trivial ei.symm)
   ·exact Atx.of rfl (q p6 _ _ cc f6 trivial ei.symm)
  have hpC:=cc.get hp1 (by simp)
  rw [eHC];clear h1 h2 h3 h4 h5 h6 h7 eHC f1 f2 f3 f4 f5 f6;refine ite2 (fun hl=>?_) (fun hl=>?_)
  ·walk_at "rd"
   refine ite2 (fun hm=>?_) (fun hm=>?_)
   ·obtain ⟨a,b,rfl,la,lb⟩:=yh ev hk (by have:=zL hl; simp at this; omega) ok
    have m3:m / 3 % 3=0\/m / 3 % 3=1\/m / 3 % 3=2:=by omega
    walk_at "rd";rename_i p8 h8;have gR:∀ (r:Addr) (H':Hp),Ch [] HC H'->∀ gr:Gt,H' r=some (.tup gr.vs)->gr.ok n gs.length->gr.isIn=false->Q (.ref r) H':=fun r H' c gr e o i=>q r gr H' (cc.trans c) e o (i.trans ei.symm)
    have c8:=Ch.new (W:=[]) h8 (.lst [.str "and",.str "or",.str "xor"]);rcases m3 with e | e | e <;> rw [e]
    ·walk_at "rd"
     rename_i p9 h9;exact gR p9 _ (c8.trans (Ch.new h9 _)) (.and a b) ah ⟨la,lb⟩ rfl
    ·walk_at "rd"
     rename_i p9 h9;exact gR p9 _ (c8.trans (Ch.new h9 _)) (.or a b) ah ⟨la,lb⟩ rfl
    ·walk_at "rd"
     rename_i p9 h9;exact gR p9 _ (c8.trans (Ch.new h9 _)) (.xor a b) ah ⟨la,lb⟩ rfl
   ·walk_at "rd"
  ·walk_at "rd"
end
end

section
theorem jC {H:Hp}{gs:List Gt}{xs:List V}{b:Addr}{c:Int} (h:H gl=some (.lst xs)) (gg:Gs H gs xs) (hb:H b=some (.lst [.int c])):gl≠b:=fun z=>by
 rw [z,hb] at h;cases h;have l:=gg.len;obtain ⟨p,ep,_⟩:=gg.at_ 0 _ (yO (show 0 < gs.length by rw [<- l]; exact Nat.zero_lt_one))
 cases ep
theorem oh {H:Hp}{prs:List (Nat × Str)}{qs:List V}{ql b:Addr}{c:Int} (h:H ql=some (.lst qs)) (pp:Prs H prs qs) (hb:H b=some (.lst [.int c])):ql≠b:=fun z=>by
 rw [z,hb] at h;cases h;have l:=pp.len;obtain ⟨p,ep,_⟩:=pp.at_ 0 _ (yO (show 0 < prs.length by rw [<- l]; exact Nat.zero_lt_one))
 cases ep
structure Rt (sg:List Gt) (so:List Nat) (lo:List Gt) (prs:List (Nat × Str)) (n:Nat):Prop where
 s:Oks sg
 o:∀ o∈so,o < sg.length
 len:prs.length=n
 lt:∀ p∈prs,p.1 < sg.length + lo.length
 lk:∀ (j:Nat) (g:Gt),lo[j]?=some g->g≠.inp/\g.ok (sg.length + j) (sg.length + lo.length)
theorem oi {α:Type}{l:List α}{i:Nat}{a x:α} (h:x∈l.set i a):x∈l\/x=a:=List.mem_or_eq_of_mem_set h
section
variable {sg lo:List Gt}{so:List Nat}{prs:List (Nat × Str)}{n i:Nat}{g:Gt}
theorem Rt.setG (r:Rt sg so lo prs n) (h:g.ok i sg.length):Rt (sg.set i g) so lo prs n:=by
 refine ⟨r.s.set h,?_,r.len,?_,?_⟩ <;> rw [zT]
 ·exact r.o
 ·exact r.lt
 ·exact r.lk
theorem Rt.setL (r:Rt sg so lo prs n) (h:g.ok (sg.length + i) (sg.length + lo.length)) (ni:g≠.inp):Rt sg so (lo.set i g) prs n:=by
 refine ⟨r.s,r.o,r.len,?_,fun j x e=>?_⟩ <;> rw [zT]
 ·exact r.lt
 ·rw [A8] at e
  split at e
  ·rename_i z
   subst z
   split at e
   ·cases e; exact ⟨ni,h⟩
   ·cases e
  ·exact r.lk j x e
theorem Rt.setO (r:Rt sg so lo prs n) {o:Nat} (h:o < sg.length):Rt sg (so.set i o) lo prs n :=
 ⟨r.s,fun x m=>(oi m).elim (r.o x) fun e=>e ▸ h,r.len,r.lt,r.lk⟩
theorem Rt.setP (r:Rt sg so lo prs n) {p:Nat × Str} (h:p.1 < sg.length + lo.length):Rt sg so lo (prs.set i p) n :=
 ⟨r.s,r.o,by rw [zT]; exact r.len,fun x m=>(oi m).elim (r.lt x) fun e=>e ▸ h,r.lk⟩
end
theorem Prs.set{xs:List V}{p:Addr}{x:Nat × Str} (h:Prs H prs xs) (hp:H p=some (.tup [nV x.1,.str x.2])):Prs H (prs.set j x) (xs.set j (.ref p)):=by
 refine ⟨by rw [zT,zT]; exact h.len,fun i y e=>?_⟩
 rw [A8] at e ⊢
 split at e
 ·rename_i z
  subst z;rw [yN rfl]
  split at e
  ·rename_i l
   cases e;exact ⟨p,by rw [yN (by rw [h.len]; exact l)],hp⟩
  ·cases e
 ·rename_i z
  rw [yM z];exact h.at_ i y e
theorem Gs.app{hs:List Gt}{xs ys:List V} (h:Gs H gs xs) (k:Gs H hs ys):Gs H (gs++hs) (xs++ys):=by
 refine ⟨by rw [zk,zk,h.len,k.len],fun i g e=>?_⟩
 by_cases hi:i < gs.length
 ·rw [zb hi] at e
  obtain ⟨p,a,b⟩:=h.at_ i g e;exact ⟨p,by rw [zb (by rw [h.len]; exact hi)]; exact a,b⟩
 ·rw [zw (by omega)] at e
  obtain ⟨p,a,b⟩:=k.at_ _ g e;exact ⟨p,by rw [zw (by rw [h.len]; omega),h.len]; exact a,b⟩
structure BS (H0 H:Hp) (gl ol ll ql:Addr) (sg:List Gt) (so:List Nat) (lo:List Gt) (prs:List (Nat × Str)) (n:Nat):Prop where
 ch:Ch [] H0 H
 f:H0 gl=none/\H0 ol=none/\H0 ll=none/\H0 ql=none
 n1:gl≠ol/\gl≠ll/\gl≠ql/\ol≠ll/\ol≠ql/\ll≠ql
 g:∃ xs,H gl=some (.lst xs)/\Gs H sg xs
 o:H ol=some (.lst (so.map nV))
 l:∃ zs,H ll=some (.lst zs)/\Gs H lo zs
 q:∃ qs,H ql=some (.lst qs)/\Prs H prs qs
 r:Rt sg so lo prs n
section
variable {H0 H H':Hp}{gl ol ll ql p:Addr}{sg lo:List Gt}{so:List Nat}{prs:List (Nat × Str)}{n i:Nat}{xs:List V}{g:Gt}
theorem BS.go (s:BS H0 H gl ol ll ql sg so lo prs n) (c:Ch [] H H'):BS H0 H' gl ol ll ql sg so lo prs n :=
 ⟨s.ch.trans c,s.f,s.n1,s.g.imp fun _ h=>⟨c.get h.1 (by simp),h.2.tu (Tu.same c)⟩,c.get s.o (by simp),s.l.imp fun _ h=>⟨c.get h.1 (by simp),h.2.tu (Tu.same c)⟩,s.q.imp fun _ h=>⟨c.get h.1 (by simp),h.2.tu (Tu.same c)⟩,s.r⟩
theorem BS.setG (s:BS H0 H gl ol ll ql sg so lo prs n) (e:H gl=some (.lst xs)) (hp:H p=some (.tup g.vs)) (h:g.ok i sg.length):BS H0 (upd H gl (.lst (xs.set i (.ref p)))) gl ol ll ql (sg.set i g) so lo prs n:=by
 obtain ⟨ys,e',gg⟩:=s.g;rw [e] at e';cases e';have t:Tu H (upd H gl (.lst (xs.set i (.ref p)))):=Tu.lst Ch.put e;obtain ⟨a,b,c,d,f,z⟩:=s.n1;exact ⟨Ch.own s.f.1 s.ch,s.f,s.n1,⟨_,ah,gg.set e hp⟩,aJ a.symm s.o,s.l.imp fun _ h=>⟨aJ b.symm h.1,h.2.tu t⟩,s.q.imp fun _ h=>⟨aJ c.symm h.1,h.2.tu t⟩,s.r.setG h⟩
theorem BS.setL (s:BS H0 H gl ol ll ql sg so lo prs n) (e:H ll=some (.lst xs)) (hp:H p=some (.tup g.vs)) (h:g.ok (sg.length + i) (sg.length + lo.length)) (ni:g≠.inp):BS H0 (upd H ll (.lst (xs.set i (.ref p)))) gl ol ll ql sg so (lo.set i g) prs n:=by
 obtain ⟨ys,e',gg⟩:=s.l;rw [e] at e';cases e';have t:Tu H (upd H ll (.lst (xs.set i (.ref p)))):=Tu.lst Ch.put e;obtain ⟨a,b,c,d,f,z⟩:=s.n1;exact ⟨Ch.own s.f.2.2.1 s.ch,s.f,s.n1,s.g.imp fun _ h=>⟨aJ b h.1,h.2.tu t⟩,aJ d s.o,⟨_,ah,gg.set e hp⟩,s.q.imp fun _ h=>⟨aJ z.symm h.1,h.2.tu t⟩,s.r.setL h ni⟩
theorem BS.setO (s:BS H0 H gl ol ll ql sg so lo prs n) {o:Nat} (h:o < sg.length):BS H0 (upd H ol (.lst ((so.map nV).set i (nV o)))) gl ol ll ql sg (so.set i o) lo prs n:=by
 have t:Tu H (upd H ol (.lst ((so.map nV).set i (nV o)))):=Tu.lst Ch.put s.o;obtain ⟨a,b,c,d,f,z⟩:=s.n1;exact ⟨Ch.own s.f.2.1 s.ch,s.f,s.n1,s.g.imp fun _ h=>⟨aJ a h.1,h.2.tu t⟩,by rw [ah,List.map_set],s.l.imp fun _ h=>⟨aJ d.symm h.1,h.2.tu t⟩,s.q.imp fun _ h=>⟨aJ f.symm h.1,h.2.tu t⟩,s.r.setO h⟩
theorem BS.setP (s:BS H0 H gl ol ll ql sg so lo prs n) (e:H ql=some (.lst xs)) {x:Nat × Str} (hp:H p=some (.tup [nV x.1,.str x.2])) (h:x.1 < sg.length + lo.length):BS H0 (upd H ql (.lst (xs.set i (.ref p)))) gl ol ll ql sg so lo (prs.set i x) n:=by
 obtain ⟨ys,e',gg⟩:=s.q;rw [e] at e';cases e';have t:Tu H (upd H ql (.lst (xs.set i (.ref p)))):=Tu.lst Ch.put e;obtain ⟨a,b,c,d,f,z⟩:=s.n1;exact ⟨Ch.own s.f.2.2.2 s.ch,s.f,s.n1,s.g.imp fun _ h=>⟨aJ c h.1,h.2.tu t⟩,aJ f s.o,s.l.imp fun _ h=>⟨aJ z h.1,h.2.tu t⟩,⟨_,ah,(gg.set hp).tu t⟩,s.r.setP h⟩
end
theorem NetAt.chb {b:Addr}{H:Hp}{op:Addr}{xs:List V}{ys:List V} (n:NetAt C H nt gp op gs xs os) (c:Ch [b] H H') (hb:H b=some (.lst ys)):NetAt C H' nt gp op gs xs os :=
 ⟨n.ob.imp fun _ h=>c.get h (by simpa using aV h hb (by intro z; cases z)),c.get n.gt (by simpa using aV n.gt hb (by intro z; cases z)),n.gg.tu (Tu.lst c hb),c.get n.ot (by simpa using aV n.ot hb (by intro z; cases z))⟩
def WHY:List Str:=["same", "turned", "first", "second", "third", "zero", "one", "not", "inner", "keep", "in"]
theorem eP {H:Hp}{p r:Addr}{o:HO} (hp:H p=none) (hr:upd H p o r=none):p≠r:=fun z=>by rw [<- z,ah] at hr; cases hr
theorem fM (h:j < n):ixN n (j:Int)=some j:=by
 unfold ixN;rw [yN (by omega)]
 simp;omega
structure Snt (CN:Addr) (H:Hp) (nt pp:Addr) (sg:List Gt) (so:List Nat) (lo:List Gt) (prs:List (Nat × Str)):Prop where
 ex:∃ (gp op ll ql:Addr) (xs zs qs:List V),NetAt CN H nt gp op sg xs so/\H pp=some (.tup [.ref ll,.ref ql])/\H ll=some (.lst zs)/\Gs H lo zs/\H ql=some (.lst qs)/\Prs H prs qs
section
variable {P:Program}{w:World}{K:PySem.W.Frag}{mg:Str->Option Value}{base:Heap}{f:Addr}{fd:FuncData}{k:Nat}
theorem oj:Nd "_law_bent_gate" := ∅
theorem av61:AF (defScope (top 61)) ["_law_small", "_law_paper", "_law_script", "_law_at", "_law_m", "_law_gates", "_law_outs", "_law_lost", "_law_pairs", "_law_k", "_law_many", "_law_whys", "_law_spot", "_law_j", "_law_pair"]:=⟨∅⟩
theorem gl61:AG (defScope (top 61)) ["_law_next", "list", "len", "enumerate", "_law_bent_gate", "Net"]:=⟨∅⟩
def spBent (K:PySem.W.Frag) (CN:Addr):Sp:=fun vs H Q _=>∃ (a b:Addr) (ns:List Int) (c:Int) (nt pp:Addr) (sg lo:List Gt) (so:List Nat) (prs:List (Nat × Str)) (n:Nat),vs=[.ref nt,.ref pp,.ref a,.ref b]/\Scr K H a ns/\H b=some (.lst [.int c])/\0<=c/\c < 2 ^ 58/\Snt CN H nt pp sg so lo prs/\Rt sg so lo prs n /\
 0 < sg.length/\0 < n/\n<=400/\sg.length<=400/\lo.length<=400/\so.length<=400/\1<=so.length /\
 ∀ (R nt' pp':Addr) (sg' lo':List Gt) (so':List Nat) (prs':List (Nat × Str)) (H':Hp),Ch [b] H H'->H' b=some (.lst [.int (c + 1)])->H' R=some (.tup [.ref nt',.ref pp'])->Snt CN H' nt' pp' sg' so' lo' prs'->Rt sg' so' lo' prs' n->sg'.length=sg.length->lo'.length=lo.length->so'.length=so.length->Q (.ref R) H'
theorem scBent:FnScope ["_law_small", "_law_paper", "_law_script", "_law_at", "_law_m", "_law_gates", "_law_outs", "_law_lost", "_law_pairs", "_law_k", "_law_many", "_law_whys", "_law_spot", "_law_j", "_law_pair"] ["_law_small", "_law_paper", "_law_script", "_law_at"] (defScope (top 61)):=⟨rfl,rfl,rfl,∅,rfl,∅,∅⟩
theorem yj (F:Fun K "_law_bent" "_law_bent" (top 61) f fd) (clN:Cls K CN) (nNG:NoAttr K CN "gates") (nNO:NoAttr K CN "outs") (MkNet:MakeOk P w K mg base CX0 k CN "Net" ["self", "gates", "outs"] (spNet CN)) (m_Net:mg "Net" = some (.ref CN)) (D_law_next:DefOk P w K mg base CX0 (k + 1) "_law_next" ["_law_script", "_law_at"] (spNext K)) (D_law_bent_gate:DefOk P w K mg base CX0 (k + 1) "_law_bent_gate" ["_law_gates", "_law_k", "_law_m"] spBG)
  (z_len:mg "len" = none) (z_list:mg "list" = none) (z_enumerate:mg "enumerate" = none):FnOk P w K mg base CX0 (k + 2) f fd ["_law_small", "_law_paper", "_law_script", "_law_at"] (spBent K CN):=by
 have nd:=scBent.nd;refine F.ok scBent (fun vs H Q E h=>by obtain ⟨a,b,ns,c,nt,pp,sg,lo,so,prs,n,rfl,_⟩:=h; rfl) (fun cdv A outer s H vs Q E hr h=>?_)
 obtain ⟨a,b,ns,c,nt,pp,sg,lo,so,prs,n,rfl,hS,hb,h0,h1,st,rt,sg0,n0,n4,sg4,lo4,so4,so1,q⟩:=h;have hrm:=hr;refine ⟨_,(Pr.h (aj (aE (i:=4) nd rfl (av61.l 4 rfl) (av D_law_next hr (gl61.g 0 rfl) pass0 (aa (qv av61 2 rfl) (aa (qv av61 3 rfl) ab ae) ae) cj)) (aj (aE (i:=5) nd rfl (av61.l 5 rfl) (bQ di (gl61.g 1 rfl) z_list cX (aa (aT (qv av61 0 rfl) rfl) ab bH) cY cZ)) (aj (aE (i:=6) nd rfl (av61.l 6 rfl) (bQ di (gl61.g 1 rfl) z_list cX (aa (aT (qv av61 0 rfl) rfl) ab bH) cY cZ)) (aj (aE (i:=7) nd rfl (av61.l 7 rfl) (bQ di (gl61.g 1 rfl) z_list cX (aa (ak aH (qv av61 1 rfl) ag (fun _ _=>rfl)) ab aK) cY cZ)) (aj (aE (i:=8) nd rfl (av61.l 8 rfl) (bQ di (gl61.g 1 rfl) z_list cX (aa (ak aH (qv av61 1 rfl) ag (fun _ _=>rfl)) ab aK) cY cZ)) (aj (aE (i:=9) nd rfl (av61.l 9 rfl) (ar aQ (ar aZ (qv av61 4 rfl) ag) (aF aL (gl61.g 2 rfl) z_len yX (aa (qv av61 8 rfl) ab ae) aM aO))) (aj (aE (i:=10) nd rfl (av61.l 10 rfl) (ar bN (aF aL (gl61.g 2 rfl) z_len yX (aa (qv av61 5 rfl) ab ae) aM aO) (aF aL (gl61.g 2 rfl) z_len yX (aa (qv av61 7 rfl) ab ae) aM aO))) (bG (aE (i:=11) nd rfl (av61.l 11 rfl) (bD (aa aq (aa aq (aa aq (aa aq (aa aq (aa aq (aa aq (aa aq (aa aq (aa aq (aa aq ab ax) ax) ax) ax) ax) ax) ax) ax) ax) ax) ax))) (bG (aw (ay eR (ak aC (qv av61 8 rfl) (qv av61 9 rfl) (fun _ _=>rfl)) cH (nomark _)) (ai (bX (aD (aa (ar aQ (ar aZ (qv av61 4 rfl) ag) (qv av61 10 rfl)) (aa (ak aC (qv av61 11 rfl) (ar aQ (ar aZ (qv av61 4 rfl) ag) ag) (fun _ _=>rfl)) ab aK) bh)) (cQ (qv av61 8 rfl) (qv av61 9 rfl) cz))) (ai (aw (ay ib (ar aQ (qv av61 4 rfl) ag) ag (nomark _)) (ai (bX (aD (aa (ar aQ (ar aZ (qv av61 4 rfl) ag) (qv av61 10 rfl)) (aa (ak aH (ak aC (qv av61 8 rfl) (qv av61 9 rfl) (fun _ _=>rfl)) ag (fun _ _=>rfl)) ab aK) bh)) (cQ (qv av61 8 rfl) (qv av61 9 rfl) cz))) (ai (aw (ay aB (ar aQ (qv av61 4 rfl) ag) ag (nomark _)) (ai (bX (aD (aa (ak aC (bD (aa (ak aH (ak aC (qv av61 8 rfl) (qv av61 9 rfl) (fun _ _=>rfl)) ag (fun _ _=>rfl)) (aa (ar aQ (ar aZ (qv av61 4 rfl) ag) (qv av61 10 rfl)) ab bh) aK)) (ar aQ (ar aZ (qv av61 4 rfl) ag) ag) (fun _ _=>rfl)) (aa (ak aC (qv av61 11 rfl) (ar aQ (ar aZ (qv av61 4 rfl) ag) ag) (fun _ _=>rfl)) ab aK) aK)) (cQ (qv av61 8 rfl) (qv av61 9 rfl) cz))) (ai (aw (br (bZ (ay aB (ar aQ (qv av61 4 rfl) ag) ag (nomark _)) (cI (ay (kW hr.units) (qv av61 6 rfl) (bD ab) (nomark _))))) (aj (aE (i:=12) nd rfl (av61.l 12 rfl) (ar aQ (ar aZ (qv av61 4 rfl) ag) (aF aL (gl61.g 2 rfl) z_len yX (aa (qv av61 6 rfl) ab ae) aM aO))) (bG (bX (ar aQ (ar aZ (qv av61 4 rfl) ag) (aF aL (gl61.g 2 rfl) z_len yX (aa (qv av61 5 rfl) ab ae) aM aO)) (cQ (qv av61 6 rfl) (qv av61 12 rfl) cz)) (ai (bB zm rfl (dU .list (gl61.g 3 rfl) z_enumerate (aa (ak aH (qv av61 1 rfl) ag (fun _ _=>rfl)) ab aK)) (cg rfl (aX (aG (i:=13) nd rfl (av61.l 13 rfl)) (aX (aG (i:=14) nd rfl (av61.l 14 rfl)) bS))) (ai (aw (br (bZ (ay jT (qv av61 14 rfl) cH (nomark _)) (bZ (ay aB (ak aH (qv av61 14 rfl) ag (fun _ _=>rfl)) (ak aH (aT (qv av61 0 rfl) rfl) (qv av61 12 rfl) (fun _ _=>rfl)) (nomark _)) (cI (ay aB (ar aQ (ar aZ (qv av61 4 rfl) ag) ag) ag (nomark _)))))) (ai (bX (aD (aa (ak aC (qv av61 6 rfl) (qv av61 12 rfl) (fun _ _=>rfl)) (aa (ak aH (qv av61 14 rfl) ag (fun _ _=>rfl)) ab aK) aK)) (cQ (qv av61 8 rfl) (qv av61 13 rfl) cz))) az)))))) (ai (aw (br (bK (ay aB (ar aQ (qv av61 4 rfl) ag) ag (nomark _)) (bR (ay (uo hr.units) (qv av61 7 rfl) (bD ab) (nomark _))))) (aj (aE (i:=12) nd rfl (av61.l 12 rfl) (ar aQ (ar aZ (qv av61 4 rfl) ag) (aF aL (gl61.g 2 rfl) z_len yX (aa (qv av61 5 rfl) ab ae) aM aO))) (ai (bX (av D_law_bent_gate hr (gl61.g 4 rfl) pass0 (aa (qv av61 5 rfl) (aa (qv av61 12 rfl) (aa (ar aZ (qv av61 4 rfl) ag) ab bh) ae) ae) oj) (cQ (qv av61 5 rfl) (qv av61 12 rfl) cz)))) (aj (aE (i:=12) nd rfl (av61.l 12 rfl) (ar aQ (ar aZ (qv av61 4 rfl) ag) (aF aL (gl61.g 2 rfl) z_len yX (aa (qv av61 7 rfl) ab ae) aM aO))) (ai (bX (av D_law_bent_gate hr (gl61.g 4 rfl) pass0 (aa (ar dQ (qv av61 5 rfl) (qv av61 7 rfl)) (aa (ar bN (aF aL (gl61.g 2 rfl) z_len yX (aa (qv av61 5 rfl) ab ae) aM aO) (qv av61 12 rfl)) (aa (ar aZ (qv av61 4 rfl) ag) ab bh) bh) bh) oj) (cQ (qv av61 7 rfl) (qv av61 12 rfl) cz))))))))))))) (ai (au (aD (aa (fb MkNet hrm (gl61.g 5 rfl) pass0 (aa (qv av61 5 rfl) (aa (qv av61 6 rfl) ab ae) ae) iY) (aa (aD (aa (qv av61 7 rfl) (aa (qv av61 8 rfl) ab ae) ae)) ab bw) bb)))))))))))))),?_⟩
 (try dsimp only [cxOf])
 obtain ⟨gp,op,ll0,ql0,xs,zs,qs,na,hpp,hll,gz,hql,pq⟩:=st.ex;have nl:=jC hll gz hb;have nq:=oh hql pq hb;have bx:Box (Scr K H a ns):=⟨hS⟩;clear hS;walk_at "rd";refine ⟨bx.h,hb,h0,by omega,fun m H1 m0 m1 c1 b1=>?_⟩
 have na1:=na.chb c1 hb;have hpp1:=c1.get hpp (by simpa using aV hpp hb (by intro z; cases z))
 have t1:Tu H H1:=Tu.lst c1 hb;have hll1:=c1.get hll (by simpa using nl)
 have hql1:=c1.get hql (by simpa using nq)
 have gz1:=gz.tu t1;have pq1:=pq.tu t1;obtain ⟨⟨dx,ob1⟩,gt1,gg1,ot1⟩:=id na1;have fo1:=dJ gp op;have fo2:=fq gp op;clear na hpp hll gz hql pq nl nq t1 st;have lq:qs.length=n:=by rw [pq1.len,rt.len]
 have lz:zs.length=lo.length:=gz1.len;have lx:xs.length=sg.length:=gg1.len;have lq0:0 < (qs.length:Int):=by omega
 obtain ⟨ko,eko⟩:∃ o:Nat,m / 6 % (qs.length:Int)=(o:Int):=zQ (zD _ (by omega))
 have lko:ko < n:=by have:=zE (m / 6) lq0; omega
 walk_at "rd";rename_i l1 f1 l2 f2 l3 f3 l4 f4;refine bC (fun σ H'=>∃ wl,σ=[some (.ref nt),some (.ref pp),some (.ref a),some (.ref b),some (.int m),some (.ref l1),some (.ref l2),some (.ref l3),some (.ref l4),some (.int (m / 6 % (qs.length:Int))),some (.int ((sg.length:Int) + (lo.length:Int))),some (.ref wl),none,none,none]/\BS H1 H' l1 l2 l3 l4 sg so lo prs n/\H' wl=some (.lst (WHY.map V.str))) ?_ ?_
 ·have cc:=(((Ch.new (W:=[]) f1 (.lst xs)).trans (Ch.new f2 (.lst (so.map nV)))).trans (Ch.new f3 (.lst zs))).trans (Ch.new f4 (.lst qs))
  have g2:H1 l2=none:=freeN f1 f2;have g3:H1 l3=none:=freeN f1 (freeN f2 f3);have g4:H1 l4=none:=freeN f1 (freeN f2 (freeN f3 f4));have e1:=aA (u:=.lst qs) f4 (aA (u:=.lst zs) f3 (aA (u:=.lst (so.map nV)) f2 (ah (H:=H1) (a:=l1) (o:=.lst xs))));have e2:=aA (u:=.lst qs) f4 (aA (u:=.lst zs) f3 (ah (H:=upd H1 l1 (.lst xs)) (a:=l2) (o:=.lst (so.map nV))));have e3:=aA (u:=.lst qs) f4 (ah (H:=upd (upd H1 l1 (.lst xs)) l2 (.lst (so.map nV))) (a:=l3) (o:=.lst zs));have bs:BS H1 _ l1 l2 l3 l4 sg so lo prs n:=⟨cc,⟨f1,g2,g3,g4⟩,⟨eP f1 f2,eP f1 (freeN f2 f3),eP f1 (freeN f2 (freeN f3 f4)),eP f2 f3,eP f2 (freeN f3 f4),eP f3 f4⟩,⟨_,e1,gg1.tu (Tu.same cc)⟩,e2,⟨_,e3,gz1.tu (Tu.same cc)⟩,⟨_,ah,pq1.tu (Tu.same cc)⟩,rt⟩;rw [lx,lz];walk_at "rd";rename_i w5 f5;exact ⟨bs.go (Ch.new f5 _),ah⟩
 rintro σ H2 ⟨wl,rfl,bs,hw⟩;rw [eko];clear f1 f2 f3 f4;obtain ⟨⟨ys,hq,pq2⟩,rt⟩:=(⟨bs.q,bs.r⟩:(∃ qs,H2 l4=some (.lst qs)/\Prs H2 prs qs)/\Rt sg so lo prs n);obtain ⟨x,ex⟩:∃ x,prs[ko]?=some x:=⟨_,yO (by rw [rt.len]; exact lko)⟩
 obtain ⟨pk,ek,hpk⟩:=pq2.at_ ko x ex;have atk:=bA ek;have xlt:=rt.lt x (zc ex);have ty:0 < (sg.length:Int) + (lo.length:Int):=by omega
 obtain ⟨o1,eo1⟩:∃ o:Nat,m / 101 % ((sg.length:Int) + (lo.length:Int))=(o:Int):=zQ (zD _ (by omega))
 have lo1:o1 < sg.length + lo.length:=by have:=zE (m / 101) ty; omega
 obtain ⟨y,ey⟩:∃ y,atI (WHY.map V.str) (m / 1009 % 11)=some (.str y):=by
  obtain ⟨j,ej⟩:∃ o:Nat,m / 1009 % 11=(o:Int):=zQ (by omega)
  have lj:j < WHY.length:=by have:WHY.length=11:=rfl; omega
  rw [ej];exact ⟨_,bA (by rw [yY,yO lj]; rfl)⟩
 have hix:ixN ys.length (ko:Int)=some ko:=fM (by rw [pq2.len,rt.len]; exact lko)
 refine bC (fun σ H'=>∃ sg' so' lo' prs' u1 u2 u3,σ=[some (.ref nt),some (.ref pp),some (.ref a),some (.ref b),some (.int m),some (.ref l1),some (.ref l2),some (.ref l3),some (.ref l4),some (.int (ko:Int)),some (.int ((sg.length:Int) + (lo.length:Int))),some (.ref wl),u1,u2,u3]/\BS H1 H' l1 l2 l3 l4 sg' so' lo' prs' n/\sg'.length=sg.length/\so'.length=so.length/\lo'.length=lo.length) ?_ ?_
 ·unfold nV at hpk
  have bP:∀ {H3:Hp}{T:Addr} (o:Nat) (s:Str),Ch [] H2 H3->H3 T=some (.tup [.int (o:Int),.str s])->o < sg.length + lo.length->BS H1 (upd H3 l4 (.lst (ys.set ko (.ref T)))) l1 l2 l3 l4 sg so lo (prs.set ko (o,s)) n:=fun o s c e l=>(bs.go c).setP (x:=(o,s)) (c.get hq (by simp)) e l
  walk_at "rd";refine ite2 (fun hc=>?_) (fun hc=>?_)
  ·walk_at "rd"
   rename_i T fT;exact ⟨bP o1 x.2 (Ch.new fT _) (by rw [<- eo1]; exact ah) lo1,rfl,rfl,rfl⟩
  walk_at "rd";refine ite2 (fun hc2=>?_) (fun hc2=>?_)
  ·have m3:m / 3 % 2=0\/m / 3 % 2=1:=by omega
   walk_at "rd";rename_i E fE;rcases m3 with e | e <;> rw [e]
   ·walk_at "rd"
    rename_i T fT;exact ⟨bP x.1 y ((Ch.new fE _).trans (Ch.new fT _)) ah xlt,rfl,rfl,rfl⟩
   ·walk_at "rd"
    rename_i T fT;exact ⟨bP o1 y ((Ch.new fE _).trans (Ch.new fT _)) (by rw [<- eo1]; exact ah) lo1,rfl,rfl,rfl⟩
  clear bP hix atk ek ex xlt hpk ey;walk_at "rd";refine ite2 (fun hc3=>?_) (fun hc3=>?_)
  ·have hne:(!decide (so.map nV=[]))=true:=by cases so with | nil=>simp at so1 | cons a l=>rfl
   have hol:=bs.o;have scs:ScaL (so.map nV):=⟨fun z hz=>by obtain ⟨o,_,rfl⟩:=Aa.mp hz; exact .inl ⟨_,rfl⟩⟩
   have sc0:ScaL ([]:List V):=⟨fun z hz=>by cases hz⟩
   walk_at "rd";rename_i E fE;refine ite2 (fun _=>?_) (fun hz=>absurd hne hz)
   have bE:=bs.go (Ch.new fE (.lst []));obtain ⟨⟨gs2,hg2,gg2⟩,_⟩:=(⟨bE.g,trivial⟩:(∃ ys,upd H2 E (.lst []) l1=some (.lst ys)/\Gs (upd H2 E (.lst [])) sg ys)/\True);have hol2:=bE.o;have lg2:=gg2.len;have ls:0 < ((so.map nV).length:Int):=by rw [yS]; omega
   have lg0:0 < (gs2.length:Int):=by omega
   obtain ⟨o2,eo2⟩:∃ o:Nat,m / 7 % ((so.map nV).length:Int)=(o:Int):=zQ (zD _ (by omega))
   have lo2:o2 < so.length:=by have:=zE (m / 7) ls; rw [yS] at this eo2; omega
   obtain ⟨o3,eo3⟩:∃ o:Nat,m / 101 % (gs2.length:Int)=(o:Int):=zQ (zD _ (by omega))
   have lo3:o3 < sg.length:=by have:=zE (m / 101) lg0; omega
   have bO:=bE.setO (i:=o2) lo3;have hix:ixN (so.map nV).length (m / 7 % ((so.map nV).length:Int))=some o2:=by rw [eo2]; exact fM (by rw [yS]; exact lo2)
   walk_at "rd";refine bC (fun σ H'=>σ=[some (.ref nt),some (.ref pp),some (.ref a),some (.ref b),some (.int m),some (.ref l1),some (.ref l2),some (.ref l3),some (.ref l4),some (.int (ko:Int)),some (.int ((sg.length:Int) + (lo.length:Int))),some (.ref wl),some (.int (m / 7 % ((so.map nV).length:Int))),none,none]/\BS H1 H' l1 l2 l3 l4 sg (so.set o2 o3) lo prs n) ?_ ?_
   ·rw [show nV o3=V.int (m / 101 % (gs2.length:Int)) by rw [eo3]; rfl] at bO
    walk_at "rd"
   rintro σ H3 ⟨rfl,bO⟩;rw [eo2];clear bE hol scs sc0 hix hg2 gg2 hol2 bs hq pq2 fE hw;have hpp3:=bO.ch.get hpp1 (by simp)
   have hql3:=bO.ch.get hql1 (by simp)
   have hol3:=bO.o;have atO:atI ((so.set o2 o3).map nV) (o2:Int)=some (.int (o3:Int)):=bA (by rw [yY,AZ lo2]; rfl)
   have atS:atI (so.map nV) (o2:Int)=some (.int ((so.getD o2 0:Nat):Int)):=bA (by rw [yY,yO lo2,zi,yO lo2]; rfl)
   walk_at "rd";refine eZ (xs:=qs) (fun i σ H'=>∃ prs' u v,σ=[some (.ref nt),some (.ref pp),some (.ref a),some (.ref b),some (.int m),some (.ref l1),some (.ref l2),some (.ref l3),some (.ref l4),some (.int (ko:Int)),some (.int ((sg.length:Int) + (lo.length:Int))),some (.ref wl),some (.int (o2:Int)),u,v]/\BS H1 H' l1 l2 l3 l4 sg (so.set o2 o3) lo prs' n) ⟨_,_,_,rfl,bO⟩ ?_ ?_ ?_
   ·rintro i σ H' hi ⟨prs',u,v,rfl,s⟩
    exact SqL.of (s.ch.get hql1 (by simp))
   ·rintro i xv σ H' T hx ⟨prs',u,v,rfl,s⟩ hT
    have li:i < prs.length:=by rw [<- pq1.len]; exact (yR.mp hx).1
    obtain ⟨z,ez⟩:∃ z,prs[i]?=some z:=⟨_,yO li⟩;obtain ⟨pi,ei,hpi⟩:=pq1.at_ i z ez;rw [hx] at ei;cases ei;have s2:=s.go (Ch.new hT (.tup [.int (i:Int),.ref pi]));have hT1:upd H' T (.tup [.int (i:Int),.ref pi]) T=some (.tup [.int (i:Int),.ref pi]):=ah;obtain ⟨HT,eHT⟩:∃ HT,HT=upd H' T (.tup [.int (i:Int),.ref pi]):=⟨_,rfl⟩;rw [<- eHT] at s2 hT1 ⊢;have hpi2:=s2.ch.get hpi (by simp)
    have ob2:=s2.ch.get ob1 (by simp)
    have ot2:=s2.ch.get ot1 (by simp)
    have ho2:=s2.o;obtain ⟨ys2,hy2,py2⟩:=s2.q;have hixi:ixN ys2.length (i:Int)=some i:=fM (by rw [py2.len,s2.r.len,<- rt.len]; exact li)
    clear s hT eHT;unfold nV at hpi2;walk_at "rd";refine ite2 (fun hc5=>?_) (fun hc5=>?_)
    ·walk_at "rd"
     refine ite2 (fun hc6=>?_) (fun hc6=>?_)
     ·walk_at "rd"
      rename_i T2 fT2;exact (s2.go (Ch.new fT2 _)).setP (x:=(o3,z.2)) (aA fT2 hy2) ah (by show o3 < _; omega)
     ·walk_at "rd"
    ·refine iteF ?_
     walk_at "rd"
   ·rintro σ H' ⟨prs',u,v,rfl,s⟩
    walk_at "rd";exact ⟨by rw [zT],rfl⟩
  ·obtain ⟨⟨gs2,hg2,gg2⟩,⟨zs2,hz2,gz2⟩⟩:=(⟨bs.g,bs.l⟩:(∃ ys,H2 l1=some (.lst ys)/\Gs H2 sg ys)/\∃ ys,H2 l3=some (.lst ys)/\Gs H2 lo ys)
   have lg2:=gg2.len;have lg0:0 < (gs2.length:Int):=by omega
   obtain ⟨o2,eo2⟩:∃ o:Nat,m / 7 % (gs2.length:Int)=(o:Int):=zQ (zD _ (by omega))
   have lo2:o2 < sg.length:=by have:=zE (m / 7) lg0; omega
   obtain ⟨g,eg⟩:∃ g,sg[o2]?=some g:=⟨_,yO lo2⟩;have okg:=rt.s o2 g eg;have sg5:sg.length<=1000:=by omega
   have m11:0<=m / 11:=by omega
   have hix:ixN gs2.length (m / 7 % (gs2.length:Int))=some o2:=by rw [eo2]; exact fM (by omega)
   walk_at "rd";refine ite2 (fun hc4=>?_) (fun hc4=>?_)
   ·refine iteT ?_
    walk_at "rd";rename_i p g2 H3 c3 hp3 ok3 in3;exact ⟨(bs.go c3).setG (c3.get hg2 (by simp)) hp3 ok3,by rw [zT],rfl,rfl⟩
   walk_at "rd";rename_i E fE;have cE:=Ch.new (W:=[]) fE (.lst []);have bE:=bs.go cE;have hg3:=cE.get hg2 (by simp)
   have gg3:=gg2.tu (Tu.same cE);have hz3:=cE.get hz2 (by simp)
   have gz3:=gz2.tu (Tu.same cE);clear cE fE bs hw;refine ite2 (fun he=>?_) (fun he=>?_)
   ·walk_at "rd"
    rename_i p g2 H3 c3 hp3 ok3 in3;exact ⟨(bE.go c3).setG (c3.get hg3 (by simp)) hp3 ok3,by rw [zT],rfl,rfl⟩
   ·have ell:∀ i,(sg++lo)[sg.length + i]?=lo[i]?:=fun i=>by rw [zw (by omega),Nat.add_sub_cancel_left]
    have lz2:=gz2.len;have lz0:0 < (zs2.length:Int):=by
     cases zs2 with
     | nil=>exact absurd rfl he
     | cons _ _=>simp
    clear eo2 lo2 eg okg hix o2;obtain ⟨o2,eo2⟩:∃ o:Nat,m / 7 % (zs2.length:Int)=(o:Int):=zQ (zD _ (by omega))
    have lo2:o2 < lo.length:=by have:=zE (m / 7) lz0; omega
    obtain ⟨g,eg⟩:∃ g,lo[o2]?=some g:=⟨_,yO lo2⟩;have okg:=rt.lk o2 g eg;have hix:ixN zs2.length (m / 7 % (zs2.length:Int))=some o2:=by rw [eo2]; exact fM (by omega)
    have exg:(m / 7 % (zs2.length:Int)) + (gs2.length:Int)=((sg.length + o2:Nat):Int):=by omega
    walk_at "rd";rename_i J fJ;have cJ:=Ch.new (W:=[]) fJ (.lst (gs2++zs2));refine ⟨(by omega:_=((sg.length + o2:Nat):Int)),ah,((gg3.tu (Tu.same cJ)).app (gz3.tu (Tu.same cJ))),(by rw [ell]; exact eg:(sg++lo)[sg.length + o2]?=some g),by rw [zk]; exact okg.2,by rw [zk]; omega,m11,fun p g2 H3 c3 hp3 ok3 in3=>?_⟩
    rw [zk] at ok3;have c4:=cJ.trans c3;have hz4:=c4.get hz3 (by simp)
    walk_at "rd";refine ⟨(bE.go c4).setL hz4 hp3 ok3 (fun z=>okg.1 ?_),rfl,rfl,by rw [zT]⟩
    rw [z] at in3;cases g <;> first | rfl | (cases in3)
 ·rintro σ H4 ⟨sg',so',lo',prs',u1,u2,u3,rfl,b4,e1,e2,e3⟩
  clear bs hw hq pq2 hix atk ek ex xlt hpk ey;obtain ⟨⟨gs2,hg2,gg2⟩,⟨zs2,hz2,gz2⟩,⟨qs2,hq2,pq2⟩⟩:=(⟨b4.g,b4.l,b4.q⟩:(∃ ys,H4 l1=some (.lst ys)/\Gs H4 sg' ys)/\(∃ ys,H4 l3=some (.lst ys)/\Gs H4 lo' ys)/\∃ ys,H4 l4=some (.lst ys)/\Prs H4 prs' ys);have ho4:=b4.o;have r4:=b4.r;have c4:=b4.ch;clear b4;have hb4:=c4.get b1 (by simp)
  walk_at "rd";rename_i x dx hx hdx nx;have ci:=Ch.inst (C:=CN) hx hdx nx;refine ⟨ci.get hg2 (by simp),gg2.tu (Tu.same ci),r4.s,by omega,ci.get ho4 (by simp),r4.o,by omega,fun gp1 op1 H5 c5 na5=>⟨rfl,?_⟩⟩
  have c45:Ch [] H4 H5:=Ch.forget (ci.wk.trans c5) (by simpa using hx)
  walk_at "rd";rename_i p5 f5 R fR;have c6:=(Ch.new (W:=[]) f5 (.tup [.ref l3,.ref l4])).trans (Ch.new fR (.tup [.ref x,.ref p5]));have c46:=c45.trans c6;refine q R x p5 sg' lo' so' prs' _ (c1.trans (Ch.wk (c4.trans c46))) (c46.get hb4 (by simp)) ah ⟨gp1,op1,l3,l4,gs2,zs2,qs2,na5.ch c6,aA fR ah,c46.get hz2 (by simp),gz2.tu (Tu.same c46),c46.get hq2 (by simp),pq2.tu (Tu.same c46)⟩ r4 e1 e3 e2
end
end

section
structure Rws (H:Hp) (rows:List (List Bool)) (rs:List V):Prop where
 len:rs.length=rows.length
 at_:∀ (i:Nat) (r:List Bool),rows[i]?=some r->∃ a,rs[i]?=some (.ref a)/\H a=some (.lst (r.map bV))
theorem PlAt.same{H:Hp}{y op ip kp kl:Addr}{bits:V}{xs:List V} (p:PlAt C H y gp op ip kp kl bits gs xs os kept) (c:Ch [] H H'):PlAt C H' y gp op ip kp kl bits gs xs os kept :=
 ⟨p.ob.imp fun _ h=>c.get h (by simp),c.get p.gt (by simp),p.gg.tu (Tu.same c),c.get p.ot (by simp),c.get p.it (by simp),c.get p.kt (by simp),c.get p.kl (by simp),p.kn⟩
def Ply (C:Addr) (H:Hp) (y:Addr) (gs:List Gt) (os:List Nat) (kept:List Bool):Prop:=Box (∃ (gp op ip kp kl:Addr) (bits:V) (xs:List V),PlAt C H y gp op ip kp kl bits gs xs os kept)
theorem Ply.by{H:Hp}{y:Addr}{W:List Addr} (p:Ply C H y gs os kept) (c:Ch W H H') (hy:y ∉ W) (ht:∀ a xs,H a=some (.tup xs)->a ∉ W) (hl:∀ a xs,H a=some (.lst xs)->a ∉ W):Ply C H' y gs os kept:=by
 obtain ⟨gp,op,ip,kp,kl,bits,xs,⟨⟨dx,o⟩,g,gg,ot,it,kt,k,kn⟩⟩:=p.h;exact ⟨gp,op,ip,kp,kl,bits,xs,⟨⟨dx,c.get o hy⟩,c.get g (ht _ _ g),gg.tu fun a xs h=>c.get h (ht _ _ h),c.get ot (ht _ _ ot),c.get it (hl _ _ it),c.get kt (hl _ _ kt),c.get k (hl _ _ k),kn⟩⟩
theorem Ply.same{H:Hp}{y:Addr} (p:Ply C H y gs os kept) (c:Ch [] H H'):Ply C H' y gs os kept:=p.by c (by simp) (fun _ _ _=>by simp) (fun _ _ _=>by simp)
theorem Ply.oth{H:Hp}{y z:Addr}{D dx:Addr}{fs:List (Str × V)} (p:Ply C H y gs os kept) (c:Ch [z] H H') (hz:H z=some (.ins D dx fs)) (n:y≠z):Ply C H' y gs os kept :=
 p.by c (by simpa using n) (fun a xs h=>by simpa using aV h hz (by intro z; cases z)) (fun a xs h=>by simpa using aV h hz (by intro z; cases z))
section
variable {P:Program}{w:World}{K:PySem.W.Frag}{mg:Str->Option Value}{base:Heap}{f:Addr}{fd:FuncData}{k:Nat}
theorem om:Nd "NetPlayer" := ∅
theorem av62:AF (defScope (top 62)) ["_law_net_here", "_law_small", "_law_rows", "_law_one", "_law_other", "_law_row"]:=⟨∅⟩
theorem gl62:AG (defScope (top 62)) ["NetPlayer", "list"]:=⟨∅⟩
def spAlk (CN:Addr):Sp:=fun vs H Q _=>∃ (nt gp op st gp2 op2 rl:Addr) (net sg lo:List Gt) (xs xs2 rs:List V) (os so:List Nat) (prs:List (Nat × Str)) (rows:List (List Bool)),vs=[.ref nt,.ref st,.ref rl]/\NetAt CN H nt gp op net xs os/\NetAt CN H st gp2 op2 sg xs2 so/\H rl=some (.lst rs)/\Rws H rows rs/\(∀ r∈rows,r.length=(numsOf Gt.isIn net 0).length) /\
 Pap net os sg so lo prs/\net.length<=400/\sg.length<=400/\os.length<=400/\so.length<=400/\∀ (H':Hp),Ch [] H H'->Q (.bl true) H'
theorem scAlk:FnScope ["_law_net_here", "_law_small", "_law_rows", "_law_one", "_law_other", "_law_row"] ["_law_net_here", "_law_small", "_law_rows"] (defScope (top 62)):=⟨rfl,rfl,rfl,∅,rfl,∅,∅⟩
theorem yk {CP:Addr} (F:Fun K "_law_alike" "_law_alike" (top 62) f fd) (MkNetPlayer:MakeOk P w K mg base CX0 k CP "NetPlayer" ["self", "net"] (spPly CN CP)) (m_NetPlayer:mg "NetPlayer" = some (.ref CP)) (MNetPlayer_beat:MethOk P w K mg base CX0 (k + 1) CP "beat" ["self", "row"] (spBeat CP)) (z_list:mg "list" = none):FnOk P w K mg base CX0 (k + 2) f fd ["_law_net_here", "_law_small", "_law_rows"] (spAlk CN):=by
 have nd:=scAlk.nd;refine F.ok scAlk (fun vs H Q E h=>by obtain ⟨nt,gp,op,st,gp2,op2,rl,net,sg,lo,xs,xs2,rs,os,so,prs,rows,rfl,_⟩:=h; rfl) (fun cdv A outer s H vs Q E hr h=>?_)
 obtain ⟨nt,gp,op,st,gp2,op2,rl,net,sg,lo,xs,xs2,rs,os,so,prs,rows,rfl,na,nb,hrl,rw_,rlen,pap,l1,l2,l3,l4,q⟩:=h;have hrm:=hr;refine ⟨_,(Pr.h (aj (aE (i:=3) nd rfl (av62.l 3 rfl) (fb MkNetPlayer hrm (gl62.g 0 rfl) pass0 (aa (qv av62 0 rfl) ab ae) om)) (aj (aE (i:=4) nd rfl (av62.l 4 rfl) (fb MkNetPlayer hrm (gl62.g 0 rfl) pass0 (aa (qv av62 1 rfl) ab ae) om)) (aj (bB zm rfl (cf (qv av62 2 rfl)) (aG (i:=5) nd rfl (av62.l 5 rfl)) (ai (aw (ay (kW hr.units) (aW (qv av62 3 rfl) MNetPlayer_beat hr pass0 (aa (bQ di (gl62.g 1 rfl) z_list cX (aa (qv av62 5 rfl) ab ae) cY cZ) ab bb)) (aW (qv av62 4 rfl) MNetPlayer_beat hr pass0 (aa (bQ di (gl62.g 1 rfl) z_list cX (aa (qv av62 5 rfl) ab ae) cY cZ) ab bb)) (nomark _)) (ai (au bz)) az))) (ai (au bz)))))),?_⟩
 (try dsimp only [cxOf])
 have okn:=pap.p.ok;have oks:=pap.s;have oo:=pap.p.lo;have so':=pap.o;have rn:=pap.rn;walk_at "rd";rename_i y1 d1 fy1 fd1 n1;have ci1:=Ch.inst (C:=CP) fy1 fd1 n1;refine ⟨na.ch ci1,okn,by omega,fun ip kp kl H1 c1 _ _ _ p1=>⟨rfl,?_⟩⟩
 have cA:Ch [] H H1:=Ch.forget (ci1.wk.trans c1) (by simpa using fy1)
 have q1:Ply CP H1 y1 net os (firsts net):=⟨_,_,_,_,_,_,_,p1⟩;obtain ⟨dd1,oy1⟩:=p1.ob;clear p1 c1 ci1 fd1 n1;walk_at "rd";rename_i y2 d2 fy2 fd2 n2;have ci2:=Ch.inst (C:=CP) fy2 fd2 n2;refine ⟨(nb.ch cA).ch ci2,oks,by omega,fun ip kp kl H2 c2 _ _ _ p2=>⟨rfl,?_⟩⟩
 have cB:Ch [] H1 H2:=Ch.forget (ci2.wk.trans c2) (by simpa using fy2)
 have q2:Ply CP H2 y2 sg so (firsts sg):=⟨_,_,_,_,_,_,_,p2⟩;have q1':=q1.same cB;have n21:y1≠y2:=aY oy1 fy2;have fz2:H y2=none:=chFree cA fy2;have cAB:=cA.trans cB;clear p2 c2 ci2 fd2 n2 cA cB q1 oy1 fy2;walk_at "rd";refine fX (xs:=rs) (fun i σ H'=>∃ k1 k2 u,σ=[some (.ref nt),some (.ref st),some (.ref rl),some (.ref y1),some (.ref y2),u]/\Ch [] H H'/\Ply CP H' y1 net os k1/\Ply CP H' y2 sg so k2/\Alk net sg lo prs k1 k2) ⟨_,_,_,rfl,cAB,q1',q2,pap.first⟩ ?_ ?_ ?_
 ·rintro i σ H' hi ⟨k1,k2,u,rfl,c,_⟩
  exact SqL.of (c.get hrl (by simp))
 ·clear q1' q2 cAB
  rintro i x σ H' hx ⟨k1,k2,u,rfl,c,⟨⟨gp1,op1,ip1,kp1,kl1,bits1,xs1,pl1⟩⟩,q2,al⟩;have li:i < rows.length:=by rw [<- rw_.len]; exact (yR.mp hx).1
  obtain ⟨row,er⟩:∃ r,rows[i]?=some r:=⟨_,yO li⟩;obtain ⟨ra,ea,hra⟩:=rw_.at_ i row er;rw [hx] at ea;cases ea;have lr:=rlen row (zc er);have hra1:=c.get hra (by simp)
  obtain ⟨dx1,o1⟩:=pl1.ob;have f1:List.lookup (Str.ofString "beat") (fldsP gp1 op1 ip1 kp1 (.ref kl1) bits1)=none:=rfl;have bq:Box (PlAt CP H' y1 gp1 op1 ip1 kp1 kl1 bits1 net xs1 os k1):=⟨pl1⟩;clear pl1;walk_at "rd";rename_i w1 hw1;have cL:=Ch.new (W:=[]) hw1 (.lst (List.map bV row));have oL:=cL.get o1 (by simp)
  refine ⟨bq.h.same cL,okn,by omega,oo,by omega,(show SqX SK.list _ w1 (List.map bV row) from ah),lr,fun res1 kl1' bl1 H9 c9 fr1 _ _ _ _ _ hres1 pl9=>?_⟩
  have c19:=(Ch.wk (W:=[y1]) (c.trans cL)).trans c9;have c0:Ch [] H H9:=Ch.forget c19 (by simpa using fy1)
  have q29:=(q2.same cL).oth c9 oL n21.symm;have q19:Ply CP H9 y1 net os (later (upto net row k1 net.length) net):=⟨_,_,_,_,_,_,_,pl9⟩;have hra9:=c0.get hra (by simp)
  obtain ⟨gp3,op3,ip3,kp3,kl3,bits3,xs3,pl3⟩:=q29.h;obtain ⟨d3,o3⟩:=pl3.ob;have f3:List.lookup (Str.ofString "beat") (fldsP gp3 op3 ip3 kp3 (.ref kl3) bits3)=none:=rfl;have bq3:Box (PlAt CP H9 y2 gp3 op3 ip3 kp3 kl3 bits3 sg xs3 so k2):=⟨pl3⟩;clear pl3 o1 f1 bq q2 q29 pl9 oL cL hw1 hra1 c9 c19;walk_at "rd";rename_i w2 hw2;have cM:=Ch.new (W:=[]) hw2 (.lst (List.map bV row));have oM:=cM.get o3 (by simp)
  refine ⟨bq3.h.same cM,oks,by omega,so',by omega,(show SqX SK.list _ w2 (List.map bV row) from ah),by rw [rn]; exact lr,fun res2 kl2' bl2 H10 c10 fr2 _ _ _ _ _ hres2 pl10=>?_⟩
  have c01:Ch [] H H10:=Ch.forget ((Ch.wk (W:=[y2]) (c0.trans cM)).trans c10) (by simpa using fz2)
  have q110:=(q19.same cM).oth c10 oM n21;have q210:Ply CP H10 y2 sg so (later (upto sg row k2 sg.length) sg):=⟨_,_,_,_,_,_,_,pl10⟩;rw [pap.outs al] at hres2;have hres10:H10 res1=_:=c10.get (cM.get hres1 (by simp)) (by simpa using aV (cM.get hres1 (by simp)) oM (by intro z; cases z))
  have sco:ScaL (os.map fun o=>bV ((upto net row k1 net.length).getD o false)):=⟨fun z hz=>by obtain ⟨o,_,rfl⟩:=Aa.mp hz; exact .inl ⟨_,rfl⟩⟩
  have aln:=pap.next (row:=row) al;walk_at "rd"
  dsimp only
  rw [y8 rfl];refine iteF ?_;exact ⟨_,_,_,rfl,c01,q110,q210,aln⟩
 ·rintro σ H' ⟨k1,k2,u,rfl,c,_⟩
  walk_at "rd";exact q _ c
end
end

section
theorem Gs.tl{xs:List V} (h:Gs H gs xs):TL H (gs.map Gt.vs) xs:=by
 refine ⟨by rw [h.len,yS],fun i zs e=>?_⟩
 rw [yY] at e;obtain ⟨g,a,b⟩:=zt.mp e;subst b;exact ⟨Gt.vs_sca g,h.at_ i g a⟩
theorem yl (gs:List Gt):((gs.map Gt.vs).countP fun zs=>decide (zs=[V.str "in"]))=gs.countP Gt.isIn:=by
 rw [A7];refine AX fun t _=>?_
 show decide (t.vs=Gt.inp.vs)=true↔_;rw [lO];cases t <;> simp [Gt.isIn]
structure Rwb (H:Hp) (b:Addr) (n:Nat) (rows:List (List Bool)) (rs:List V):Prop where
 len:rs.length=rows.length
 at_:∀ (i:Nat) (r:List Bool),rows[i]?=some r->∃ a,rs[i]?=some (.ref a)/\H a=some (.lst (r.map bV))/\a≠b
 wd:∀ r∈rows,r.length=n
section
variable {H H':Hp}{b:Addr}{n:Nat}{rows:List (List Bool)}{rs:List V}
theorem Rwb.nil:Rwb H b n [] []:=⟨rfl,fun i r e=>by simp at e,fun r m=>by cases m⟩
theorem Rwb.ch (h:Rwb H b n rows rs) (c:Ch [b] H H'):Rwb H' b n rows rs:=⟨h.len,fun i r e=>let ⟨a,x,y,z⟩:=h.at_ i r e; ⟨a,x,c.get y (by simpa using z),z⟩,h.wd⟩
theorem Rwb.push {r:Addr} (h:Rwb H b n rows rs) (hr:H r=some (.lst (row.map bV))) (nb:r≠b) (l:row.length=n):Rwb H b n (rows++[row]) (rs++[.ref r]):=by
 refine ⟨by simp [h.len],fun i x e=>?_,fun x m=>?_⟩
 ·rcases bT e with ⟨hi,e⟩ | ⟨rfl,rfl⟩
  ·obtain ⟨a,x,y⟩:=h.at_ i x e
   exact ⟨a,by rw [zb (by rw [h.len]; exact hi)]; exact x,y⟩
  ·exact ⟨r,by rw [<- h.len]; simp,hr,nb⟩
 ·rcases zR.mp m with m | m
  ·exact h.wd x m
  ·rw [zI.mp m]; exact l
theorem Rwb.rw (h:Rwb H b n rows rs):Rws H rows rs:=⟨h.len,fun i r e=>let ⟨a,x,y,_⟩:=h.at_ i r e; ⟨a,x,y⟩⟩
theorem Rwb.ne {rl:Addr}{c:Int} (h:Rwb H b n rows rs) (e:H rl=some (.lst rs)) (hb:H b=some (.lst [.int c])):rl≠b:=fun z=>by
 rw [z,hb] at e;cases e;obtain ⟨a,x,_⟩:=h.at_ 0 _ (yO (show 0 < rows.length by rw [<- h.len]; exact Nat.zero_lt_one))
 cases x
end
theorem Snt.ch {b:Addr}{H:Hp}{pp:Addr}{sg lo:List Gt}{so:List Nat}{c:Int} (s:Snt CN H nt pp sg so lo prs) (h:Ch [b] H H') (hb:H b=some (.lst [.int c])):Snt CN H' nt pp sg so lo prs:=by
 obtain ⟨gp,op,ll,ql,xs,zs,qs,na,hpp,hll,gz,hql,pq⟩:=s.ex;have t:=Tu.lst h hb;exact ⟨gp,op,ll,ql,xs,zs,qs,na.chb h hb,h.get hpp (by simpa using aV hpp hb (by intro z; cases z)),h.get hll (by simpa using jC hll gz hb),gz.tu t,h.get hql (by simpa using oh hql pq hb),pq.tu t⟩
section
variable {P:Program}{w:World}{K:PySem.W.Frag}{mg:Str->Option Value}{base:Heap}{f:Addr}{fd:FuncData}{k:Nat}
theorem ym:Nd "_law_drawn" := ∅
theorem yn:Nd "made_small" := ∅
theorem yo:Nd "_law_bits" := ∅
theorem jD:Nd "small_holds" := ∅
theorem yp:Nd "_law_bent" := ∅
theorem oq:Nd "_law_alike" := ∅
theorem av63:AF (defScope (top 63)) ["_law_script", "_law_at", "_law_gates", "_law_outs", "_law_net_here", "_law_small", "_law_paper", "_law_rows", "_law_turn", "_law_bent_here"]:=⟨∅⟩
theorem gl63:AG (defScope (top 63)) ["_law_drawn", "Net", "made_small", "range", "_law_next", "len", "small_holds", "min", "_law_bent", "_law_alike"]:=⟨∅⟩
def hU:Scope:=⟨.function,[(".0",.local),("_law_turn",.local),("_law_bits",.globalImplicit),("_law_at",.free),("_law_gates",.free),("_law_script",.free)],false,false,[]⟩
theorem ou:CompOk hU (defScope (top 63)) (["_law_turn"]:List Str) (["_law_script", "_law_at", "_law_gates", "_law_outs", "_law_net_here", "_law_small", "_law_paper", "_law_rows", "_law_turn", "_law_bent_here"]:List Str) [0,1,2] (["_law_turn", "_law_script", "_law_at", "_law_gates"]:List Str):=compOk rfl ∅ ∅ ∅ ∅ rfl ∅
theorem ow:AK (relab hU (defScope (top 63))) ["_law_turn"]:=⟨∅⟩
theorem yq:AG (relab hU (defScope (top 63))) ["_law_bits"]:=⟨∅⟩
theorem jE:AV (relab hU (defScope (top 63))) ["_law_turn", "_law_script", "_law_at", "_law_gates"]:=⟨∅⟩
def spLaw (K:PySem.W.Frag):Sp:=fun vs H Q _=>∃ (a:Addr) (ns:List Int),vs=[.ref a]/\Scr K H a ns/\∀ H',Q (.bl true) H'
theorem scLaw:FnScope ["_law_script", "_law_at", "_law_gates", "_law_outs", "_law_net_here", "_law_small", "_law_paper", "_law_rows", "_law_turn", "_law_bent_here"] ["_law_script"] (defScope (top 63)):=⟨rfl,rfl,rfl,∅,rfl,∅,∅⟩
theorem yr (F:Fun K "law" "law" (top 63) f fd) (clN:Cls K CN) (nNG:NoAttr K CN "gates") (MkNet:MakeOk P w K mg base CX0 k CN "Net" ["self", "gates", "outs"] (spNet CN)) (m_Net:mg "Net" = some (.ref CN)) (D_law_next:DefOk P w K mg base CX0 (k + 1) "_law_next" ["_law_script", "_law_at"] (spNext K)) (D_law_drawn:DefOk P w K mg base CX0 (k + 1) "_law_drawn" ["_law_script", "_law_at"] (spDr K))
  (Dmade_small:DefOk P w K mg base CX0 (k + 1) "made_small" ["net"] (spMad CN)) (D_law_bits:DefOk P w K mg base CX0 (k + 1) "_law_bits" ["_law_script", "_law_at", "_law_many"] (spLBits K)) (Dsmall_holds:DefOk P w K mg base CX0 (k + 1) "small_holds" ["net", "small", "paper"] (spSH CN)) (D_law_bent:DefOk P w K mg base CX0 (k + 1) "_law_bent" ["_law_small", "_law_paper", "_law_script", "_law_at"] (spBent K CN)) (D_law_alike:DefOk P w K mg base CX0 (k + 1) "_law_alike" ["_law_net_here", "_law_small", "_law_rows"] (spAlk CN))
  (z_len:mg "len" = none) (z_range:mg "range" = none) (z_min:mg "min" = none):FnOk P w K mg base CX0 (k + 2) f fd ["_law_script"] (spLaw K):=by
 have nd:=scLaw.nd;refine F.ok scLaw (fun vs H Q E h=>by obtain ⟨a,ns,rfl,_⟩:=h; rfl) (fun cdv A outer s H vs Q E hr h=>?_)
 obtain ⟨a,ns,rfl,hS,q⟩:=h;have hrm:=hr;refine ⟨_,(Pr.h (aj (aE (i:=1) nd rfl (av63.l 1 rfl) (bD (aa ag ab ax))) (aj (bX (av D_law_drawn hr (gl63.g 0 rfl) pass0 (aa (qv av63 0 rfl) (aa (qv av63 1 rfl) ab ae) ae) ym) (cg rfl (aX (aG (i:=2) nd rfl (av63.l 2 rfl)) (aX (aG (i:=3) nd rfl (av63.l 3 rfl)) bS)))) (bG (aE (i:=4) nd rfl (av63.l 4 rfl) (fb MkNet hrm (gl63.g 1 rfl) pass0 (aa (qv av63 2 rfl) (aa (qv av63 3 rfl) ab ae) ae) iY)) (aj (bX (av Dmade_small hr (gl63.g 2 rfl) pass0 (aa (qv av63 4 rfl) ab ae) yn) (cg rfl (aX (aG (i:=5) nd rfl (av63.l 5 rfl)) (aX (aG (i:=6) nd rfl (av63.l 6 rfl)) bS)))) (bG (eI (i:=7) nd rfl (av63.l 7 rfl) rfl ou (cU (gl63.g 3 rfl) z_range (aa (ar bN ag (ar aQ (av D_law_next hr (gl63.g 4 rfl) pass0 (aa (qv av63 0 rfl) (aa (qv av63 1 rfl) ab ae) ae) cj) ag)) ab bh)) (fun _ _ _ _ _=>(aG (i:=0) ou.nd rfl (Or.inl (ow.k 0 rfl)) (Or.inr (ow.k 0 rfl)))) (fun _ _ _ _ _=>bY) (fun _ _ _ _ _=>(av D_law_bits hr (yq.g 0 rfl) pass0 (aa (qw jE 1 rfl) (aa (qw jE 2 rfl) (aa (uq K rfl zM PySem.F.slot_list_count PySem.F.type_list_count (uk hr.units) (qw jE 3 rfl) (aa (aD (aa aq ab ax)) ab bw)) ab bb) ae) ae) yo)) rfl) (aj (aw (ay aB (aF aL (gl63.g 5 rfl) z_len yX (aa (aT (qv av63 5 rfl) rfl) ab bH) aM aO) ag (nomark _)) (ai (au (av Dsmall_holds hr (gl63.g 6 rfl) pass0 (aa (qv av63 4 rfl) (aa (qv av63 5 rfl) (aa (qv av63 6 rfl) ab ae) ae) ae) jD))) az) (aj (bB zm rfl (cU (gl63.g 3 rfl) z_range (aa (ar bN ag (aF (jU rfl) (gl63.g 7 rfl) z_min iM (aa ag (aa (ar aZ (aF aL (gl63.g 5 rfl) z_len yX (aa (qv av63 0 rfl) ab ae) aM aO) ag) ab bh) ax) iN iO)) ab bh)) (aG (i:=8) nd rfl (av63.l 8 rfl)) (aj (aE (i:=9) nd rfl (av63.l 9 rfl) (av D_law_bent hr (gl63.g 8 rfl) pass0 (aa (qv av63 5 rfl) (aa (qv av63 6 rfl) (aa (qv av63 0 rfl) (aa (qv av63 1 rfl) ab ae) ae) ae) ae) yp)) (ai (aw (br (bZ (aU (av Dsmall_holds hr (gl63.g 6 rfl) pass0 (aa (qv av63 4 rfl) (aa (ak aH (qv av63 9 rfl) ag (fun _ _=>rfl)) (aa (ak aH (qv av63 9 rfl) ag (fun _ _=>rfl)) ab aK) aK) ae) jD)) (cI (bW (aU (av D_law_alike hr (gl63.g 9 rfl) pass0 (aa (qv av63 4 rfl) (aa (ak aH (qv av63 9 rfl) ag (fun _ _=>rfl)) (aa (qv av63 7 rfl) ab ae) aK) ae) oq)))))) (ai (au bz)) az)))) (ai (au (bp (av Dsmall_holds hr (gl63.g 6 rfl) pass0 (aa (qv av63 4 rfl) (aa (qv av63 5 rfl) (aa (qv av63 6 rfl) ab ae) ae) ae) jD) (bc (av D_law_alike hr (gl63.g 9 rfl) pass0 (aa (qv av63 4 rfl) (aa (qv av63 5 rfl) (aa (qv av63 7 rfl) ab ae) ae) ae) oq))))))))))))),?_⟩
 (try dsimp only [cxOf])
 have bx:Box (Scr K H a ns):=⟨hS⟩;clear hS;walk_at "rd";rename_i b hb;have hS1:=bx.h.same (Ch.new hb (.lst [.int 0]));refine ⟨hS1,ah,by omega,by omega,fun R gl ol gs xs os H1 dn hR1 zg zo fg=>?_⟩
 have hbl:upd H b (.lst [.int 0]) b=some (.lst [.int 0]):=ah;obtain ⟨c1,b1,hc1,hd1⟩:=dn.at_;have sc1:=hS1.ch hbl dn.ch;walk_at "rd";refine bC (fun σ H'=>∃ nt gp op,σ=[some (.ref a),some (.ref b),some (.ref gl),some (.ref ol),some (.ref nt),none,none,none,none,none]/\Ch [] H1 H'/\NetAt CN H' nt gp op gs xs os) ?_ ?_
 ·have dgl:=dn.gl
  have dgg:=dn.gg;have dol:=dn.ol;have dok:=dn.ok;have doo:=dn.oo;walk_at "rd";rename_i x dx hx hdx nx;have ci:=Ch.inst (C:=CN) hx hdx nx;refine ⟨ci.get dgl (by simp),dgg.tu (Tu.same ci),dok,by omega,ci.get dol (by simp),doo,by omega,fun gp1 op1 H3 c3 na3=>⟨rfl,?_⟩⟩
  exact ⟨x,gp1,op1,rfl,Ch.forget (ci.wk.trans c3) (by simpa using hx),na3⟩
 rintro σ H2 ⟨nt,gp,op,rfl,c2,na2⟩;have gl2:=c2.get dn.gl (by simp)
 have gg2:=dn.gg.tu (Tu.same c2);have ok:=dn.ok;have oo:=dn.oo;have sc2:=sc1.same c2;have b2:=c2.get b1 (by simp)
 clear dn bx hS1 sc1 b1 hbl c2 hR1;have bs:Box (Scr K H2 a ns):=⟨sc2⟩;have bn2:Box (NetAt CN H2 nt gp op gs xs os):=⟨na2⟩;clear sc2 na2;walk_at "rd";refine ⟨bn2.h,ok,by omega,oo,by omega,fun R3 W H3 c3 md=>?_⟩
 obtain ⟨wd,nt2,pp,ll,ql,gp2,op2,xs2,zs,qs,hR,hpp,na4,hll,ggl,hql,prq,_,_⟩:=md;have tw:Two gs os W:=⟨ok,wd⟩;have lg:=gN ok;have sh:=tw.sho oo;have oks:Oks (told gs W):=mh wd lg.ok;have al:=jA gs W;have gsz:=lg.sz;have ppr:=sh.p oo;have sht:=sh.t;have rt:Rt (told gs W) (os.map fun o=>rk W (gsF gs).length (rho (shr gs).2 o)) (lostG gs W) (prsS gs W) gs.length:=⟨oks,fun o m=>by obtain ⟨o',m',rfl⟩:=Aa.mp m; exact iW wd (wd.out _ (Aa.mpr ⟨o',m',rfl⟩)),ppr.len,fun p m=>by have:=ppr.lt p m; rwa [zk] at this,ppr.lk⟩
 have sn3:Snt CN H3 nt2 pp (told gs W) (os.map fun o=>rk W (gsF gs).length (rho (shr gs).2 o)) (lostG gs W) (prsS gs W):=⟨gp2,op2,ll,ql,xs2,zs,qs,na4,hpp,hll,ggl,hql,prq⟩
 have lso:(os.map fun o=>rk W (gsF gs).length (rho (shr gs).2 o)).length=os.length:=yS _
 rw [zk] at al;generalize told gs W=sg at *;generalize (os.map fun o=>rk W (gsF gs).length (rho (shr gs).2 o))=so at *
 generalize lostG gs W=lo at *;generalize prsS gs W=prs at *;have na3:=bn2.h.ch c3;have gl3:=c3.get gl2 (by simp)
 have gg3:=gg2.tu (Tu.same c3);have b3:=c3.get b2 (by simp)
 have bs3:Box (Scr K H3 a ns):=⟨bs.h.same c3⟩;clear wd tw lg sh bn2 gl2 gg2 b2 bs c3 na4 hpp hll ggl hql prq;walk_at "rd";have ngb:gl≠b:=jC gl3 gg3 b3;have zin:gs.countP Gt.isIn<=60:=zy List.countP_le_length zg;refine bC (fun σ H'=>∃ (rl:Addr) (c:Int) (rows:List (List Bool)) (rs:List V),σ=[some (.ref a),some (.ref b),some (.ref gl),some (.ref ol),some (.ref nt),some (.ref nt2),some (.ref pp),some (.ref rl),none,none]/\Ch [b] H3 H'/\H' b=some (.lst [.int c])/\0<=c/\c<=2000/\H' rl=some (.lst rs)/\Rwb H' b (gs.countP Gt.isIn) rows rs) ?_ ?_
 ·walk_at "rd"
  refine ⟨bs3.h,b3,by omega,by omega,fun m H4 m0 m1 c4 b4=>?_⟩
  obtain ⟨n7,en7⟩:∃ n:Nat,1 + m % 6=(n:Int):=zQ (by omega)
  walk_at "rd";refine iA (fun i ys σ H'=>∃ rows c',Ch [b] H3 H'/\H' b=some (.lst [.int c'])/\(0<=c'/\c'<=c1 + 1 + 61 * i)/\Rwb H' b (gs.countP Gt.isIn) rows ys/\rows.length=i/\∃ u,σ=[u,some (.ref a),some (.ref b),some (.ref gl)]) (by rw [zf]; omega) ⟨[],_,c4,b4,by omega,.nil,rfl,_,rfl⟩ ?_ ?_ ?_
  ·rintro i ys σ H' hi ⟨rows,c',c,hb',hc',rw_,lr,_⟩
   rw [rw_.len]; omega
  ·rintro i ys σ H' hi ⟨rows,c',c,hb',⟨hc0,hc1'⟩,rw_,lr,u,rfl⟩
   have hi6:i < 6:=by omega
   have hgl:=c.get gl3 (by simpa using ngb)
   have gg:=gg3.tu (Tu.lst c b3);have sc:Scr K H' a ns:=bs3.h.ch b3 c;have cin:=yl gs;have sIn:ScaL [V.str "in"]:=Gt.vs_sca .inp;walk_at "rd";rename_i p hp;have cP:Ch [] H' _:=Ch.new hp (.tup [.str "in"]);have scP:Box (Scr K _ a ns):=⟨sc.same cP⟩;have bP:=cP.get hb' (by simp)
   refine ⟨(gg.tu (Tu.new _ hp)).tl,?_⟩;rw [cin];clear gg hgl sc;walk_at "rd";refine ⟨scP.h,bP,hc0,by omega,fun r row c9 H8 c8 fr lrow hr8 b8 g1 g2=>?_⟩
   have cc:=(c.trans (Ch.wk cP)).trans c8;exact ⟨rows++[row],c9,cc,b8,⟨by omega,by omega⟩,((rw_.ch (Ch.wk cP)).ch c8).push hr8 (aY bP fr).symm lrow,by simp [lr],_,rfl⟩
  ·rintro ys σ H' ⟨rows,c',c,hb',⟨hc0,hc1'⟩,rw_,lr,u,rfl⟩
   walk_at "rd";rename_i p hp;exact rw_.ch (Ch.wk (Ch.new hp _))
 rintro σ H4 ⟨rl,c4,rows,rs,rfl,h4,b4,c40,c41,hrl,rw_⟩;have na4:=na3.chb h4 b3;have sn4:=sn3.ch h4 b3;have bs4:Box (Scr K H4 a ns):=⟨bs3.h.ch b3 h4⟩;have lrl:=rw_.ne hrl b4;clear h4 b3 na3 sn3 gl3 gg3 bs3;obtain ⟨gp2,op2,ll2,ql2,xs2,zs2,qs2,nb4,hpp4,hll4,gz4,hql4,pq4⟩:=sn4.ex;obtain ⟨⟨d4,ob4⟩,gt4,gx4,ot4⟩:=id nb4;have fo1:=dJ gp2 op2;have lx2:=gx4.len;have lsg:sg.length<=60:=by omega
 have llo:lo.length<=60:=by omega
 have rwn:∀ r∈rows,r.length=(numsOf Gt.isIn gs 0).length:=fun r m=>by rw [fH]; exact rw_.wd r m
 walk_at "rd";refine ite2 (fun h0=>?_) (fun h0=>?_)
 ·walk_at "rd"
  rename_i H5 c5;rw [sht];exact q _
 have sg0:0 < sg.length:=by
  rcases AW sg.length with z | z
  ·exact absurd (by rw [lx2,z]; rfl) h0
  ·exact z
 clear hpp4 hll4 gz4 hql4 pq4 nb4 gt4 gx4 ot4 ob4 fo1;have scr4:=bs4.h;walk_at "rd";refine dj (fun i σ H'=>∃ c u v,σ=[some (.ref a),some (.ref b),some (.ref gl),some (.ref ol),some (.ref nt),some (.ref nt2),some (.ref pp),some (.ref rl),u,v]/\Ch [b] H4 H'/\H' b=some (.lst [.int c])/\0<=c/\c<=2000 + i) ⟨_,_,_,rfl,Ch.refl _ _,b4,c40,by omega⟩ ?_ ?_
 ·clear scr4
  rintro i σ H' hi ⟨c,u,v,rfl,cc,hb',g0,g1⟩;have hi12:i < 12:=by
   generalize (List.map V.int ns).length=z at hi
   split at hi <;> omega
  clear hi;have sn:Box (Snt CN H' nt2 pp sg so lo prs):=⟨sn4.ch cc b4⟩;have sc:=bs4.h.ch b4 cc;walk_at "rd";refine ⟨sn.h,rt,sg0,by omega,by omega,by omega,by omega,by omega,by omega,fun R nt' pp' sg' lo' so' prs' H5 c5 b5 hR5 sn5 rt5 e1 e2 e3=>?_⟩
  have c45:=cc.trans c5;have na5:=na4.chb c45 b4;obtain ⟨gp3,op3,ll3,ql3,xs3,zs3,qs3,nb5,hpp5,hll5,gz5,hql5,pq5⟩:=sn5.ex;have pp5:Ppr gs os sg' lo' prs':=⟨ok,rt5.len,fun p m=>by rw [zk]; exact rt5.lt p m,rt5.lk,oo⟩
  have z1:gs.length<=1000:=by omega
  have z2:sg'.length<=1000:=by omega
  have z3:lo'.length<=1000:=by omega
  walk_at "rd";rename_i H6 c6;have c46:=c45.trans (Ch.wk c6);have b6:=c6.get b5 (by simp)
  cases e:shB gs os sg' so' lo' prs' with
  | false =>
   refine iteF ?_;walk_at "rd";omega
  | true =>
  refine iteT ?_;have pap:Pap gs os sg' so' lo' prs':=⟨pp5,rt5.s,rt5.o,e⟩;have hrl6:=c46.get hrl (by simpa using lrl)
  have hR6:=c6.get hR5 (by simp)
  have rw6:=(rw_.ch c46).rw;have na6:=na5.ch c6;have nb6:=nb5.ch c6;clear na5 nb5 hpp5 hll5 gz5 hql5 pq5 hR5 b5;walk_at "rd";omega
 ·rintro σ H' ⟨c,u,v,rfl,cc,hb',g0,g1⟩
  have na5:=na4.chb cc b4;obtain ⟨gp3,op3,ll3,ql3,xs3,zs3,qs3,nb5,hpp5,hll5,gz5,hql5,pq5⟩:=(sn4.ch cc b4).ex;walk_at "rd";rename_i H6 c6;rw [yN sht];have c46:=cc.trans (Ch.wk c6);have pap:Pap gs os sg so lo prs:=⟨ppr,rt.s,rt.o,sht⟩;have hrl6:=c46.get hrl (by simpa using lrl)
  have rw6:=(rw_.ch c46).rw;have na6:=na5.ch c6;have nb6:=nb5.ch c6;clear na5 nb5 hpp5 hll5 gz5 hql5 pq5;walk_at "rd";exact q _
end
end

section
open PySem.W (nsIn findIn mg_of mg_none_of isFn)
theorem lp0 {α:Type}{p:List α->Prop} (h:p []):∀ us:List α,us.length=0->p us:=fun us e=>by cases us with | nil=>exact h | cons _ _=>cases e
theorem lp1 {α:Type}{p:List α->Prop} (h:∀ x0,p [x0]):∀ us:List α,us.length=1->p us:=fun us e=>by cases us with | nil=>cases e | cons a r=>exact lp0 (p:=fun r=>p (a :: r)) (h a) r (Nat.succ.inj e)
theorem lp2 {α:Type}{p:List α->Prop} (h:∀ x0 x1,p [x0,x1]):∀ us:List α,us.length=2->p us:=fun us e=>by cases us with | nil=>cases e | cons a r=>exact lp1 (p:=fun r=>p (a :: r)) (h a) r (Nat.succ.inj e)
theorem lp3 {α:Type}{p:List α->Prop} (h:∀ x0 x1 x2,p [x0,x1,x2]):∀ us:List α,us.length=3->p us:=fun us e=>by cases us with | nil=>cases e | cons a r=>exact lp2 (p:=fun r=>p (a :: r)) (h a) r (Nat.succ.inj e)
theorem lp4 {α:Type}{p:List α->Prop} (h:∀ x0 x1 x2 x3,p [x0,x1,x2,x3]):∀ us:List α,us.length=4->p us:=fun us e=>by cases us with | nil=>cases e | cons a r=>exact lp3 (p:=fun r=>p (a :: r)) (h a) r (Nat.succ.inj e)
theorem lp5 {α:Type}{p:List α->Prop} (h:∀ x0 x1 x2 x3 x4,p [x0,x1,x2,x3,x4]):∀ us:List α,us.length=5->p us:=fun us e=>by cases us with | nil=>cases e | cons a r=>exact lp4 (p:=fun r=>p (a :: r)) (h a) r (Nat.succ.inj e)
theorem ll1 (h:∀ x0,bindArgs F ⟨[x0],[]⟩=pure (ps.zip [x0])) (us:List Value) (e:us.length=1):bindArgs F ⟨us,[]⟩=pure (ps.zip us):=lp1 (p:=fun us=>bindArgs F ⟨us,[]⟩=pure (ps.zip us)) h us e
theorem ll2 (h:∀ x0 x1,bindArgs F ⟨[x0,x1],[]⟩=pure (ps.zip [x0,x1])) (us:List Value) (e:us.length=2):bindArgs F ⟨us,[]⟩=pure (ps.zip us):=lp2 (p:=fun us=>bindArgs F ⟨us,[]⟩=pure (ps.zip us)) h us e
theorem ll3 (h:∀ x0 x1 x2,bindArgs F ⟨[x0,x1,x2],[]⟩=pure (ps.zip [x0,x1,x2])) (us:List Value) (e:us.length=3):bindArgs F ⟨us,[]⟩=pure (ps.zip us):=lp3 (p:=fun us=>bindArgs F ⟨us,[]⟩=pure (ps.zip us)) h us e
theorem ll4 (h:∀ x0 x1 x2 x3,bindArgs F ⟨[x0,x1,x2,x3],[]⟩=pure (ps.zip [x0,x1,x2,x3])) (us:List Value) (e:us.length=4):bindArgs F ⟨us,[]⟩=pure (ps.zip us):=lp4 (p:=fun us=>bindArgs F ⟨us,[]⟩=pure (ps.zip us)) h us e
theorem ll5 (h:∀ x0 x1 x2 x3 x4,bindArgs F ⟨[x0,x1,x2,x3,x4],[]⟩=pure (ps.zip [x0,x1,x2,x3,x4])) (us:List Value) (e:us.length=5):bindArgs F ⟨us,[]⟩=pure (ps.zip us):=lp5 (p:=fun us=>bindArgs F ⟨us,[]⟩=pure (ps.zip us)) h us e
structure Gf (K:PySem.W.Frag) (x:Str) (t:Stmt) (f:Addr) (d:FuncData):Prop where
 a:nsIn K mainGlobals x=some (some (.ref f))
 F:Fun K x x t f d
theorem D0 {l:PySem.W.OpenLaw}{w:World}{K:PySem.W.Frag}{h:Heap}{mg:Str->Option Value}{base:Heap}{CX:CXT} (X:K.In h) (G:h.Ns mainGlobals mg) {x:Str}{t:Stmt}{f:Addr}{d:FuncData}{ps:List Str}{k:Nat}{sp:Sp} (g:Gf K x t f d) (b:Binds K d ps []) (o:FnOk l.prog w K mg base CX k f d ps sp):DefOk l.prog w K mg base CX k x ps sp:=⟨f,d,o,b,g.F.kp,mg_of X G g.a⟩
def spt5 (a b c d:Addr) (f:Addr):Sp:=if f=a then spRu "not" else if f=b then spRu "and" else if f=c then spRu "or" else if f=d then spRu "xor" else spRu "pick"
theorem yt:∀ vs H Q E,spRu "not" vs H Q E->spNotB vs H Q E:=fun vs H Q E h=>by
 rcases h with ⟨e,h⟩ | ⟨e,h⟩ | ⟨e,h⟩ | ⟨e,h⟩ | ⟨e,h⟩ <;> first | exact h | exact absurd e ∅
theorem yu:∀ vs H Q E,spRu "and" vs H Q E->spAndB vs H Q E:=fun vs H Q E h=>by
 rcases h with ⟨e,h⟩ | ⟨e,h⟩ | ⟨e,h⟩ | ⟨e,h⟩ | ⟨e,h⟩ <;> first | exact h | exact absurd e ∅
theorem yv:∀ vs H Q E,spRu "or" vs H Q E->spOrB vs H Q E:=fun vs H Q E h=>by
 rcases h with ⟨e,h⟩ | ⟨e,h⟩ | ⟨e,h⟩ | ⟨e,h⟩ | ⟨e,h⟩ <;> first | exact h | exact absurd e ∅
theorem yw:∀ vs H Q E,spRu "xor" vs H Q E->spXorB vs H Q E:=fun vs H Q E h=>by
 rcases h with ⟨e,h⟩ | ⟨e,h⟩ | ⟨e,h⟩ | ⟨e,h⟩ | ⟨e,h⟩ <;> first | exact h | exact absurd e ∅
theorem yx:∀ vs H Q E,spRu "pick" vs H Q E->spPickB vs H Q E:=fun vs H Q E h=>by
 rcases h with ⟨e,h⟩ | ⟨e,h⟩ | ⟨e,h⟩ | ⟨e,h⟩ | ⟨e,h⟩ <;> first | exact h | exact absurd e ∅
theorem yy {l:PySem.W.OpenLaw}{w:World}{h:Heap}{mg:Str->Option Value}{CN CS CP:Addr} (X:K.In h) (G:h.Ns mainGlobals mg) (hfa:mg "law" = some (.ref fa))
  {f0 f1 f2 f3 f4 f5 f6 f7 f8 f9 f10 f11 f12 f13 f14 f15 f16 f17 f18 f19 f20 f21 f22 f23 f24 f25 f26 f27 f28 f29 f30 f31 f32 f33 f34 f35 f36 f37 f38 f39 f40 f41 f42 f43 f44 f45 f46 f47 f48 f49 f50 f51 f52 f53 f54 f55 f56 f57 f58:Addr}{d0 d1 d2 d3 d4 d5 d6 d7 d8 d9 d10 d11 d12 d13 d14 d15 d16 d17 d18 d19 d20 d21 d22 d23 d24 d25 d26 d27 d28 d29 d30 d31 d32 d33 d34 d35 d36 d37 d38 d39 d40 d41 d42 d43 d44 d45 d46 d47 d48 d49 d50 d51 d52 d53 d54 d55 d56 d57 d58:FuncData}
  {STWO_SIDED:Addr}{tTWO_SIDED0 tTWO_SIDED1 tTWO_SIDED2:Tok}{nTWO_SIDED:Nat}{slTWO_SIDED:Array (Option Value)} (aSTWO_SIDED:nsIn K mainGlobals "TWO_SIDED" = some (some (.ref STWO_SIDED))) (lSTWO_SIDED:K.lookup STWO_SIDED=some ⟨.type "tuple",none,.seq #[.str "and" tTWO_SIDED0,.str "or" tTWO_SIDED1,.str "xor" tTWO_SIDED2] nTWO_SIDED,slTWO_SIDED⟩)
  (aN:nsIn K mainGlobals "Net" = some (some (.ref CN)))
  (aS:nsIn K mainGlobals "Shrinker" = some (some (.ref CS)))
  (aP:nsIn K mainGlobals "NetPlayer" = some (some (.ref CP)))
  (G0:Gf K "_wall" (top 0) f0 d0)
  (G1:Gf K "is_whole" (top 6) f1 d1)
  (G2:Gf K "is_below" (top 7) f2 d2)
  (G3:Gf K "is_listed" (top 8) f3 d3)
  (G4:Gf K "is_pair" (top 9) f4 d4)
  (G5:Gf K "ask_length" (top 10) f5 d5)
  (G6:Gf K "ask_values" (top 11) f6 d6)
  (G7:Gf K "ask_bits" (top 12) f7 d7)
  (G8:Gf K "is_gate" (top 15) f8 d8)
  (G9:Gf K "ins_of" (top 17) f9 d9)
  (G10:Gf K "keeps_of" (top 18) f10 d10)
  (G11:Gf K "feeds_of" (top 19) f11 d11)
  (G12:Gf K "is_zero" (top 21) f12 d12)
  (G13:Gf K "is_one" (top 22) f13 d13)
  (G14:Gf K "are_opposed" (top 23) f14 d14)
  (G15:Gf K "not_holds" (top 24) f15 d15)
  (G16:Gf K "and_holds" (top 25) f16 d16)
  (G17:Gf K "or_holds" (top 26) f17 d17)
  (G18:Gf K "xor_holds" (top 27) f18 d18)
  (G19:Gf K "pick_holds" (top 28) f19 d19)
  (G20:Gf K "pair_holds" (top 30) f20 d20)
  (G21:Gf K "with_lost" (top 31) f21 d21)
  (G22:Gf K "are_pairs" (top 32) f22 d22)
  (G23:Gf K "ins_hold" (top 33) f23 d23)
  (G24:Gf K "outs_hold" (top 34) f24 d24)
  (G25:Gf K "gates_hold" (top 35) f25 d25)
  (G26:Gf K "small_holds" (top 36) f26 d26)
  (G27:Gf K "gate_bits" (top 38) f27 d27)
  (G28:Gf K "plain_pair" (top 44) f28 d28)
  (G29:Gf K "not_pair" (top 45) f29 d29)
  (G30:Gf K "and_pair" (top 46) f30 d30)
  (G31:Gf K "or_pair" (top 47) f31 d31)
  (G32:Gf K "xor_pair" (top 48) f32 d32)
  (G33:Gf K "pick_pair" (top 49) f33 d33)
  (G34:Gf K "gate_pair" (top 50) f34 d34)
  (G35:Gf K "shrunk" (top 51) f35 d35)
  (G36:Gf K "wanted_of" (top 52) f36 d36)
  (G37:Gf K "renumbered" (top 53) f37 d37)
  (G38:Gf K "made_small" (top 54) f38 d38)
  (G39:Gf K "_law_next" (top 56) f39 d39)
  (G40:Gf K "_law_bits" (top 57) f40 d40)
  (G41:Gf K "_law_net" (top 58) f41 d41)
  (G42:Gf K "_law_drawn" (top 59) f42 d42)
  (G43:Gf K "_law_bent_gate" (top 60) f43 d43)
  (G44:Gf K "_law_bent" (top 61) f44 d44)
  (G45:Gf K "_law_alike" (top 62) f45 d45)
  (G46:Gf K "law" (top 63) f46 d46)
  (a47:findIn K (.ref CN) "__init__" = some (some (.ref f47))) (F47:Fun K "__init__" "Net.__init__" (inClass (top 16) 0) f47 d47) (i47:isFn K (.ref f47)=true)
  (a48:findIn K (.ref CS) "__init__" = some (some (.ref f48))) (F48:Fun K "__init__" "Shrinker.__init__" (inClass (top 43) 0) f48 d48) (i48:isFn K (.ref f48)=true)
  (a49:findIn K (.ref CS) "lay" = some (some (.ref f49))) (F49:Fun K "lay" "Shrinker.lay" (inClass (top 43) 1) f49 d49) (i49:isFn K (.ref f49)=true)
  (a50:findIn K (.ref CS) "gate_like" = some (some (.ref f50))) (F50:Fun K "gate_like" "Shrinker.gate_like" (inClass (top 43) 2) f50 d50) (i50:isFn K (.ref f50)=true)
  (a51:findIn K (.ref CS) "zero" = some (some (.ref f51))) (F51:Fun K "zero" "Shrinker.zero" (inClass (top 43) 3) f51 d51) (i51:isFn K (.ref f51)=true)
  (a52:findIn K (.ref CS) "one" = some (some (.ref f52))) (F52:Fun K "one" "Shrinker.one" (inClass (top 43) 4) f52 d52) (i52:isFn K (.ref f52)=true)
  (a53:findIn K (.ref CS) "opposite" = some (some (.ref f53))) (F53:Fun K "opposite" "Shrinker.opposite" (inClass (top 43) 5) f53 d53) (i53:isFn K (.ref f53)=true)
  (a54:findIn K (.ref CS) "is_zero" = some (some (.ref f54))) (F54:Fun K "is_zero" "Shrinker.is_zero" (inClass (top 43) 6) f54 d54) (i54:isFn K (.ref f54)=true)
  (a55:findIn K (.ref CS) "is_one" = some (some (.ref f55))) (F55:Fun K "is_one" "Shrinker.is_one" (inClass (top 43) 7) f55 d55) (i55:isFn K (.ref f55)=true)
  (a56:findIn K (.ref CS) "are_opposed" = some (some (.ref f56))) (F56:Fun K "are_opposed" "Shrinker.are_opposed" (inClass (top 43) 8) f56 d56) (i56:isFn K (.ref f56)=true)
  (a57:findIn K (.ref CP) "__init__" = some (some (.ref f57))) (F57:Fun K "__init__" "NetPlayer.__init__" (inClass (top 40) 0) f57 d57) (i57:isFn K (.ref f57)=true)
  (a58:findIn K (.ref CP) "beat" = some (some (.ref f58))) (F58:Fun K "beat" "NetPlayer.beat" (inClass (top 40) 1) f58 d58) (i58:isFn K (.ref f58)=true)
  (pgN:PySem.W.plainGet K CN Str.empty=true) (hdN:PySem.W.hasDictIn K CN=true) (poN:PySem.W.plainOver K CN=true) (saN:findIn K (.ref CN) "__setattr__" = some (some (.builtin "object.__setattr__"))) (mkN:PySem.W.makesIn K CN=true) (kcN:PySem.W.keepIn K (.ref CN)=true)
  (nN_gates:findIn K (.ref CN) "gates" = some none)
  (nN_outs:findIn K (.ref CN) "outs" = some none)
  (pgS:PySem.W.plainGet K CS Str.empty=true) (hdS:PySem.W.hasDictIn K CS=true) (poS:PySem.W.plainOver K CS=true) (saS:findIn K (.ref CS) "__setattr__" = some (some (.builtin "object.__setattr__"))) (mkS:PySem.W.makesIn K CS=true) (kcS:PySem.W.keepIn K (.ref CS)=true)
  (nS_gates:findIn K (.ref CS) "gates" = some none)
  (nS_numbers:findIn K (.ref CS) "numbers" = some none)
  (pgP:PySem.W.plainGet K CP Str.empty=true) (hdP:PySem.W.hasDictIn K CP=true) (poP:PySem.W.plainOver K CP=true) (saP:findIn K (.ref CP) "__setattr__" = some (some (.builtin "object.__setattr__"))) (mkP:PySem.W.makesIn K CP=true) (kcP:PySem.W.keepIn K (.ref CP)=true)
  (nP_gates:findIn K (.ref CP) "gates" = some none)
  (nP_outs:findIn K (.ref CP) "outs" = some none)
  (nP_ins:findIn K (.ref CP) "ins" = some none)
  (nP_keeps:findIn K (.ref CP) "keeps" = some none)
  (nP_kept:findIn K (.ref CP) "kept" = some none)
  (nP_bits:findIn K (.ref CP) "bits" = some none)
  (z_len:nsIn K mainGlobals "len" = some none)
  (z_range:nsIn K mainGlobals "range" = some none)
  (z_int:nsIn K mainGlobals "int" = some none)
  (z_str:nsIn K mainGlobals "str" = some none)
  (z_isinstance:nsIn K mainGlobals "isinstance" = some none)
  (z_zip:nsIn K mainGlobals "zip" = some none)
  (z_list:nsIn K mainGlobals "list" = some none)
  (z_tuple:nsIn K mainGlobals "tuple" = some none)
  (z_bool:nsIn K mainGlobals "bool" = some none)
  (z_all:nsIn K mainGlobals "all" = some none)
  (z_enumerate:nsIn K mainGlobals "enumerate" = some none)
  (z_max:nsIn K mainGlobals "max" = some none)
  (z_min:nsIn K mainGlobals "min" = some none)
  (z_dict:nsIn K mainGlobals "dict" = some none)
  {ff:Addr}{kvs:List (Key × V)} (aFC:PySem.W.nsIn K mainGlobals "FEED_COUNTS" = some (some (.ref ff)))
  (hKD:KD l.prog w K ff kvs)
  (hF:∀ w n,(w,n)∈FC->valV kvs (Sum.inr w)=some (.int n))
  {ra:Addr}{rkv:List (Key × V)} (aRU:PySem.W.nsIn K mainGlobals "RULES" = some (some (.ref ra)))
  (hKR:KD l.prog w K ra rkv)
  (hR_not:valV rkv (Sum.inr "not")=some (.ref f15))
  (hR_and:valV rkv (Sum.inr "and")=some (.ref f16))
  (hR_or:valV rkv (Sum.inr "or")=some (.ref f17))
  (hR_xor:valV rkv (Sum.inr "xor")=some (.ref f18))
  (hR_pick:valV rkv (Sum.inr "pick")=some (.ref f19))
  (ndR:[f15,f16,f17,f18,f19].Nodup)
  (hRN:∀ wo,wo ∉ RU->valV rkv (Sum.inr wo)=none) :
  ∃ fd:FuncData,(∀ (s:Shared) (v:Value),BindsTo s fd ⟨[v],[]⟩ [("_law_script",v)])/\∀ base:Heap,K.In base->base.Ns mainGlobals mg->FnOk l.prog w K mg base CX0 8 fa fd ["_law_script"] (spLaw K):=by
 have e:=hfa.symm.trans (mg_of X G G46.a);cases e;have b0:=G0.F.binds (ps:=["k"]) fun _ _ _ _ _ _=>ll1 (fun _=>rfl)
 have b1:=G1.F.binds (ps:=["thing"]) fun _ _ _ _ _ _=>ll1 (fun _=>rfl)
 have b2:=G2.F.binds (ps:=["thing", "bound"]) fun _ _ _ _ _ _=>ll2 (fun _ _=>rfl)
 have b3:=G3.F.binds (ps:=["thing"]) fun _ _ _ _ _ _=>ll1 (fun _=>rfl)
 have b4:=G4.F.binds (ps:=["thing"]) fun _ _ _ _ _ _=>ll1 (fun _=>rfl)
 have b5:=G5.F.binds (ps:=["row", "length"]) fun _ _ _ _ _ _=>ll2 (fun _ _=>rfl)
 have b6:=G6.F.binds (ps:=["row", "wides"]) fun _ _ _ _ _ _=>ll2 (fun _ _=>rfl)
 have b7:=G7.F.binds (ps:=["row", "length"]) fun _ _ _ _ _ _=>ll2 (fun _ _=>rfl)
 have b8:=G8.F.binds (ps:=["thing", "ahead", "total"]) fun _ _ _ _ _ _=>ll3 (fun _ _ _=>rfl)
 have b9:=G9.F.binds (ps:=["net"]) fun _ _ _ _ _ _=>ll1 (fun _=>rfl)
 have b10:=G10.F.binds (ps:=["net"]) fun _ _ _ _ _ _=>ll1 (fun _=>rfl)
 have b11:=G11.F.binds (ps:=["gate"]) fun _ _ _ _ _ _=>ll1 (fun _=>rfl)
 have b12:=G12.F.binds (ps:=["gates", "number"]) fun _ _ _ _ _ _=>ll2 (fun _ _=>rfl)
 have b13:=G13.F.binds (ps:=["gates", "number"]) fun _ _ _ _ _ _=>ll2 (fun _ _=>rfl)
 have b14:=G14.F.binds (ps:=["gates", "number", "other"]) fun _ _ _ _ _ _=>ll3 (fun _ _ _=>rfl)
 have b15:=G15.F.binds (ps:=["gates", "why", "it", "feeds"]) fun _ _ _ _ _ _=>ll4 (fun _ _ _ _=>rfl)
 have b16:=G16.F.binds (ps:=["gates", "why", "it", "feeds"]) fun _ _ _ _ _ _=>ll4 (fun _ _ _ _=>rfl)
 have b17:=G17.F.binds (ps:=["gates", "why", "it", "feeds"]) fun _ _ _ _ _ _=>ll4 (fun _ _ _ _=>rfl)
 have b18:=G18.F.binds (ps:=["gates", "why", "it", "feeds"]) fun _ _ _ _ _ _=>ll4 (fun _ _ _ _=>rfl)
 have b19:=G19.F.binds (ps:=["gates", "why", "it", "feeds"]) fun _ _ _ _ _ _=>ll4 (fun _ _ _ _=>rfl)
 have b20:=G20.F.binds (ps:=["gates", "gate", "it", "why", "feeds"]) fun _ _ _ _ _ _=>ll5 (fun _ _ _ _ _=>rfl)
 have b21:=G21.F.binds (ps:=["small", "lost"]) fun _ _ _ _ _ _=>ll2 (fun _ _=>rfl)
 have b22:=G22.F.binds (ps:=["pairs", "count", "total"]) fun _ _ _ _ _ _=>ll3 (fun _ _ _=>rfl)
 have b23:=G23.F.binds (ps:=["net", "small", "pairs"]) fun _ _ _ _ _ _=>ll3 (fun _ _ _=>rfl)
 have b24:=G24.F.binds (ps:=["net", "small", "pairs"]) fun _ _ _ _ _ _=>ll3 (fun _ _ _=>rfl)
 have b25:=G25.F.binds (ps:=["net", "gates", "pairs"]) fun _ _ _ _ _ _=>ll3 (fun _ _ _=>rfl)
 have b26:=G26.F.binds (ps:=["net", "small", "paper"]) fun _ _ _ _ _ _=>ll3 (fun _ _ _=>rfl)
 have b27:=G27.F.binds (ps:=["word", "fed", "whole"]) fun _ _ _ _ _ _=>ll3 (fun _ _ _=>rfl)
 have b28:=G28.F.binds (ps:=["shrinker", "gate"]) fun _ _ _ _ _ _=>ll2 (fun _ _=>rfl)
 have b29:=G29.F.binds (ps:=["shrinker", "x"]) fun _ _ _ _ _ _=>ll2 (fun _ _=>rfl)
 have b30:=G30.F.binds (ps:=["shrinker", "x", "y"]) fun _ _ _ _ _ _=>ll3 (fun _ _ _=>rfl)
 have b31:=G31.F.binds (ps:=["shrinker", "x", "y"]) fun _ _ _ _ _ _=>ll3 (fun _ _ _=>rfl)
 have b32:=G32.F.binds (ps:=["shrinker", "x", "y"]) fun _ _ _ _ _ _=>ll3 (fun _ _ _=>rfl)
 have b33:=G33.F.binds (ps:=["shrinker", "x", "y", "z"]) fun _ _ _ _ _ _=>ll4 (fun _ _ _ _=>rfl)
 have b34:=G34.F.binds (ps:=["shrinker", "gate", "feeds"]) fun _ _ _ _ _ _=>ll3 (fun _ _ _=>rfl)
 have b35:=G35.F.binds (ps:=["net"]) fun _ _ _ _ _ _=>ll1 (fun _=>rfl)
 have b36:=G36.F.binds (ps:=["gates", "outs"]) fun _ _ _ _ _ _=>ll2 (fun _ _=>rfl)
 have b37:=G37.F.binds (ps:=["gate", "places"]) fun _ _ _ _ _ _=>ll2 (fun _ _=>rfl)
 have b38:=G38.F.binds (ps:=["net"]) fun _ _ _ _ _ _=>ll1 (fun _=>rfl)
 have b39:=G39.F.binds (ps:=["_law_script", "_law_at"]) fun _ _ _ _ _ _=>ll2 (fun _ _=>rfl)
 have b40:=G40.F.binds (ps:=["_law_script", "_law_at", "_law_many"]) fun _ _ _ _ _ _=>ll3 (fun _ _ _=>rfl)
 have b41:=G41.F.binds (ps:=["_law_script", "_law_at", "_law_ins", "_law_keeps", "_law_many"]) fun _ _ _ _ _ _=>ll5 (fun _ _ _ _ _=>rfl)
 have b42:=G42.F.binds (ps:=["_law_script", "_law_at"]) fun _ _ _ _ _ _=>ll2 (fun _ _=>rfl)
 have b43:=G43.F.binds (ps:=["_law_gates", "_law_k", "_law_m"]) fun _ _ _ _ _ _=>ll3 (fun _ _ _=>rfl)
 have b44:=G44.F.binds (ps:=["_law_small", "_law_paper", "_law_script", "_law_at"]) fun _ _ _ _ _ _=>ll4 (fun _ _ _ _=>rfl)
 have b45:=G45.F.binds (ps:=["_law_net_here", "_law_small", "_law_rows"]) fun _ _ _ _ _ _=>ll3 (fun _ _ _=>rfl)
 have b47:=F47.binds (ps:=["self", "gates", "outs"]) fun _ _ _ _ _ _=>ll3 (fun _ _ _=>rfl)
 have b48:=F48.binds (ps:=["self"]) fun _ _ _ _ _ _=>ll1 (fun _=>rfl)
 have b49:=F49.binds (ps:=["self", "gate"]) fun _ _ _ _ _ _=>ll2 (fun _ _=>rfl)
 have b50:=F50.binds (ps:=["self", "gate"]) fun _ _ _ _ _ _=>ll2 (fun _ _=>rfl)
 have b51:=F51.binds (ps:=["self"]) fun _ _ _ _ _ _=>ll1 (fun _=>rfl)
 have b52:=F52.binds (ps:=["self"]) fun _ _ _ _ _ _=>ll1 (fun _=>rfl)
 have b53:=F53.binds (ps:=["self", "number"]) fun _ _ _ _ _ _=>ll2 (fun _ _=>rfl)
 have b54:=F54.binds (ps:=["self", "number"]) fun _ _ _ _ _ _=>ll2 (fun _ _=>rfl)
 have b55:=F55.binds (ps:=["self", "number"]) fun _ _ _ _ _ _=>ll2 (fun _ _=>rfl)
 have b56:=F56.binds (ps:=["self", "number", "other"]) fun _ _ _ _ _ _=>ll3 (fun _ _ _=>rfl)
 have b57:=F57.binds (ps:=["self", "net"]) fun _ _ _ _ _ _=>ll2 (fun _ _=>rfl)
 have b58:=F58.binds (ps:=["self", "row"]) fun _ _ _ _ _ _=>ll2 (fun _ _=>rfl)
 have z_len:=mg_none_of X G z_len;have z_range:=mg_none_of X G z_range;have z_int:=mg_none_of X G z_int;have z_str:=mg_none_of X G z_str;have z_isinstance:=mg_none_of X G z_isinstance;have z_zip:=mg_none_of X G z_zip;have z_list:=mg_none_of X G z_list;have z_tuple:=mg_none_of X G z_tuple;have z_bool:=mg_none_of X G z_bool;have z_all:=mg_none_of X G z_all;have z_enumerate:=mg_none_of X G z_enumerate;have z_max:=mg_none_of X G z_max;have z_min:=mg_none_of X G z_min;have z_dict:=mg_none_of X G z_dict;have mN:=mg_of X G aN;have clN:Cls K CN:=⟨pgN,hdN,poN,saN⟩;have mS:=mg_of X G aS;have clS:Cls K CS:=⟨pgS,hdS,poS,saS⟩;have mP:=mg_of X G aP;have clP:Cls K CP:=⟨pgP,hdP,poP,saP⟩;have m_TWO_SIDED:=mg_of X G aSTWO_SIDED;obtain ⟨_,_,_,_,_,_,_,_,_,ef,_⟩:=G46.F.ex;refine ⟨d46,fun s v=>by rw [ef]; exact .of_eq rfl,fun base _ _=>?_⟩
 have D:=@D0 l w K h mg base CX0 X G;have m_FEED_COUNTS:=PySem.W.mg_of X G aFC;have m_RULES:=PySem.W.mg_of X G aRU;have two:∀ H,SqT K H STWO_SIDED [.str "and",.str "or",.str "xor"]:=fun H=>.inr ⟨_,_,_,lSTWO_SIDED,rfl,rfl,(by show 3<=sizeLine; rw [zf]; decide),.cons ⟨_,rfl⟩ (.cons ⟨_,rfl⟩ (.cons ⟨_,rfl⟩ .nil))⟩
 have D_is_whole_1:=D G1 b1 (uI (k:=0) G1.F z_isinstance z_int z_bool);have D_is_below_2:=D G2 b2 (uJ (k:=1) G2.F D_is_whole_1);have D_is_gate_3:=D G8 b8 (uO (k:=2) G8.F D_is_below_2 m_FEED_COUNTS hKD hF z_isinstance z_tuple z_str z_len z_all);have MkN:MakeOk l.prog w K mg base CX0 4 CN "Net" ["self", "gates", "outs"] (spNet CN):=⟨⟨f47,_,uS (k:=3) F47 clN nN_gates nN_outs D_is_gate_3 (D_is_below_2.mono (by omega)) z_enumerate z_len z_tuple,b47,⟨mkN,a47,i47,kcN⟩,mN⟩⟩
 have D_is_listed_1:=D G3 b3 (uK (k:=0) G3.F z_isinstance z_list z_tuple);have D_is_pair_2:=D G4 b4 (wB (k:=1) G4.F D_is_listed_1 z_len);have D_ins_of_1:=D G9 b9 (uQ (k:=0) G9.F clN nN_gates z_enumerate);have D_feeds_of_1:=D G11 b11 (uP (k:=0) G11.F z_list);have MkS:MakeOk l.prog w K mg base CX0 1 CS "Shrinker" ["self"] (spShr CS):=⟨⟨f48,_,vi (k:=0) F48 clS nS_gates nS_numbers,b48,⟨mkS,a48,i48,kcS⟩,mS⟩⟩;have M1:MethOk l.prog w K mg base CX0 1 CS "lay" ["self", "gate"] (spLay CS):=⟨clS,f49,_,vj (k:=0) F49 clS nS_gates z_len,b49,⟨a49,i49,F49.kp⟩⟩;have M2:MethOk l.prog w K mg base CX0 2 CS "gate_like" ["self", "gate"] (spLike CS):=⟨clS,f50,_,vm (k:=1) F50 clS nS_numbers M1 m_TWO_SIDED two z_min z_max,b50,⟨a50,i50,F50.kp⟩⟩;have M3:MethOk l.prog w K mg base CX0 3 CS "zero" ["self"] (spCon CS .zero):=⟨clS,f51,_,vn (k:=2) F51 clS M2,b51,⟨a51,i51,F51.kp⟩⟩;have M4:MethOk l.prog w K mg base CX0 3 CS "one" ["self"] (spCon CS .one):=⟨clS,f52,_,vo (k:=2) F52 clS M2,b52,⟨a52,i52,F52.kp⟩⟩;have M5:MethOk l.prog w K mg base CX0 3 CS "opposite" ["self", "number"] (spOpp CS):=⟨clS,f53,_,vq (k:=2) F53 clS nS_gates M2,b53,⟨a53,i53,F53.kp⟩⟩;have M6:MethOk l.prog w K mg base CX0 1 CS "is_zero" ["self", "number"] (spIs CS isZ):=⟨clS,f54,_,vt (k:=0) F54 clS nS_gates,b54,⟨a54,i54,F54.kp⟩⟩;have M7:MethOk l.prog w K mg base CX0 1 CS "is_one" ["self", "number"] (spIs CS isO):=⟨clS,f55,_,vv (k:=0) F55 clS nS_gates,b55,⟨a55,i55,F55.kp⟩⟩;have M8:MethOk l.prog w K mg base CX0 1 CS "are_opposed" ["self", "number", "other"] (spOp2 CS):=⟨clS,f56,_,vw (k:=0) F56 clS nS_gates,b56,⟨a56,i56,F56.kp⟩⟩;have D_plain_pair_3:=D G28 b28 (vA (k:=2) G28.F clS nS_gates M2);have D_not_pair_4:=D G29 b29 (vD (k:=3) G29.F clS nS_gates (M6.mono (by omega)) (M7.mono (by omega)) M3 M4 M5 D_plain_pair_3)
 have D_and_pair_4:=D G30 b30 (vE (k:=3) G30.F clS (M6.mono (by omega)) (M7.mono (by omega)) M3 (M8.mono (by omega)) D_plain_pair_3)
 have D_or_pair_4:=D G31 b31 (vF (k:=3) G31.F clS (M6.mono (by omega)) (M7.mono (by omega)) M4 (M8.mono (by omega)) D_plain_pair_3)
 have D_xor_pair_4:=D G32 b32 (vG (k:=3) G32.F clS (M6.mono (by omega)) (M7.mono (by omega)) M3 M4 (M8.mono (by omega)) M5 D_plain_pair_3)
 have D_pick_pair_4:=D G33 b33 (vH (k:=3) G33.F clS (M6.mono (by omega)) (M7.mono (by omega)) M5 D_plain_pair_3)
 have D_gate_pair_5:=D G34 b34 (vR (k:=4) G34.F D_not_pair_4 D_and_pair_4 D_or_pair_4 D_xor_pair_4 D_pick_pair_4 (D_plain_pair_3.mono (by omega)))
 have D_shrunk_6:=D G35 b35 (vV (k:=4) G35.F clN nN_gates clS nS_gates (MkS.mono (by omega)) (M1.mono (by omega)) D_gate_pair_5 (D_feeds_of_1.mono (by omega)) z_zip)
 have D_wanted_of_2:=D G36 b36 (vW (k:=1) G36.F D_feeds_of_1 z_enumerate z_list z_len);have D_renumbered_2:=D G37 b37 (v8 (k:=1) G37.F D_feeds_of_1 z_tuple);have D_made_small_7:=D G38 b38 (we (k:=5) G38.F clN nN_gates nN_outs (MkN.mono (by omega)) D_shrunk_6 (D_wanted_of_2.mono (by omega)) (D_renumbered_2.mono (by omega)) z_range z_len z_enumerate)
 have D_is_zero_1:=D G12 b12 (wg (k:=0) G12.F);have D_is_one_1:=D G13 b13 (wj (k:=0) G13.F);have D_are_opposed_1:=D G14 b14 (wm (k:=0) G14.F);simp only [Az,yZ,ze,zh,not_or,not_false_eq_true,List.nodup_nil,and_true] at ndR;obtain ⟨⟨n1,n2,n3,n4⟩,⟨n5,n6,n7⟩,⟨n8,n9⟩,n10⟩:=ndR;have s_not:(spt5 f15 f16 f17 f18) f15=spRu "not" := by unfold spt5; rw [yN rfl]
 have t_not:∃ fd:FuncData,FnOk l.prog w K mg base CX0 2 f15 fd ["gates", "why", "it", "feeds"] ((spt5 f15 f16 f17 f18) f15)/\Binds K fd ["gates", "why", "it", "feeds"] []/\PySem.W.keepIn K (.ref f15)=true:=⟨_,by rw [s_not]; exact (wq (k:=1) G15.F D_is_zero_1 D_is_one_1 D_are_opposed_1).imp yt,b15,G15.F.kp⟩
 have s_and:(spt5 f15 f16 f17 f18) f16=spRu "and" := by unfold spt5; rw [yM (yV n1),yN rfl]
 have t_and:∃ fd:FuncData,FnOk l.prog w K mg base CX0 2 f16 fd ["gates", "why", "it", "feeds"] ((spt5 f15 f16 f17 f18) f16)/\Binds K fd ["gates", "why", "it", "feeds"] []/\PySem.W.keepIn K (.ref f16)=true:=⟨_,by rw [s_and]; exact (wt (k:=1) G16.F D_is_zero_1 D_is_one_1 D_are_opposed_1).imp yu,b16,G16.F.kp⟩
 have s_or:(spt5 f15 f16 f17 f18) f17=spRu "or" := by unfold spt5; rw [yM (yV n2),yM (yV n5),yN rfl]
 have t_or:∃ fd:FuncData,FnOk l.prog w K mg base CX0 2 f17 fd ["gates", "why", "it", "feeds"] ((spt5 f15 f16 f17 f18) f17)/\Binds K fd ["gates", "why", "it", "feeds"] []/\PySem.W.keepIn K (.ref f17)=true:=⟨_,by rw [s_or]; exact (wu (k:=1) G17.F D_is_zero_1 D_is_one_1 D_are_opposed_1).imp yv,b17,G17.F.kp⟩
 have s_xor:(spt5 f15 f16 f17 f18) f18=spRu "xor" := by unfold spt5; rw [yM (yV n3),yM (yV n6),yM (yV n8),yN rfl]
 have t_xor:∃ fd:FuncData,FnOk l.prog w K mg base CX0 2 f18 fd ["gates", "why", "it", "feeds"] ((spt5 f15 f16 f17 f18) f18)/\Binds K fd ["gates", "why", "it", "feeds"] []/\PySem.W.keepIn K (.ref f18)=true:=⟨_,by rw [s_xor]; exact (wx (k:=1) G18.F D_is_zero_1 D_is_one_1 D_are_opposed_1).imp yw,b18,G18.F.kp⟩
 have s_pick:(spt5 f15 f16 f17 f18) f19=spRu "pick" := by unfold spt5; rw [yM (yV n4),yM (yV n7),yM (yV n9),yM (yV n10)]
 have t_pick:∃ fd:FuncData,FnOk l.prog w K mg base CX0 2 f19 fd ["gates", "why", "it", "feeds"] ((spt5 f15 f16 f17 f18) f19)/\Binds K fd ["gates", "why", "it", "feeds"] []/\PySem.W.keepIn K (.ref f19)=true:=⟨_,by rw [s_pick]; exact (wz (k:=1) G19.F D_is_zero_1 D_is_one_1 D_are_opposed_1).imp yx,b19,G19.F.kp⟩
 have TT:TabOk l.prog w K mg base CX0 2 ["gates", "why", "it", "feeds"] (spt5 f15 f16 f17 f18) (fun f=>f=f15\/f=f16\/f=f17\/f=f18\/f=f19):=⟨fun f hf=>by
  rcases hf with h | h | h | h | h <;> rw [h]
  ·exact t_not
  ·exact t_and
  ·exact t_or
  ·exact t_xor
  ·exact t_pick⟩
 have hT:∀ wo∈RU,∃ f,valV rkv (.inr wo)=some (.ref f)/\(f=f15\/f=f16\/f=f17\/f=f18\/f=f19)/\(spt5 f15 f16 f17 f18) f=spRu wo:=fun wo hm=>by
  simp only [RU,yZ,ze,zh] at hm;rcases hm with rfl | rfl | rfl | rfl | rfl
  ·exact ⟨_,hR_not,.inl rfl,s_not⟩
  ·exact ⟨_,hR_and,.inr (.inl rfl),s_and⟩
  ·exact ⟨_,hR_or,.inr (.inr (.inl rfl)),s_or⟩
  ·exact ⟨_,hR_xor,.inr (.inr (.inr (.inl rfl))),s_xor⟩
  ·exact ⟨_,hR_pick,.inr (.inr (.inr (.inr rfl))),s_pick⟩
 have D_pair_holds_3:=D G20 b20 (wA (k:=2) G20.F TT m_RULES hKR hT hRN z_tuple);have D_with_lost_4:=D G21 b21 (wC (k:=3) G21.F clN nN_gates (D_is_listed_1.mono (by omega)) D_is_gate_3 z_len z_list z_tuple)
 have D_are_pairs_3:=D G22 b22 (wD (k:=2) G22.F (D_is_listed_1.mono (by omega)) D_is_pair_2 D_is_below_2 z_len)
 have D_ins_hold_2:=D G23 b23 (xC (k:=1) G23.F D_ins_of_1 z_len z_zip z_tuple);have D_outs_hold_1:=D G24 b24 (xD (k:=0) G24.F clN nN_outs z_len z_zip);have D_gates_hold_4:=D G25 b25 (xF (k:=3) G25.F clN nN_gates (D_feeds_of_1.mono (by omega)) D_pair_holds_3 z_zip)
 have D_small_holds_5:=D G26 b26 (xM (k:=4) G26.F clN nN_gates (D_is_pair_2.mono (by omega)) D_with_lost_4 (D_are_pairs_3.mono (by omega)) (D_ins_hold_2.mono (by omega)) (D_outs_hold_1.mono (by omega)) D_gates_hold_4 z_len)
 have D__law_next_1:=D G39 b39 (uT (k:=0) G39.F z_len z_range);have D__law_net_2:=D G41 b41 (uY (k:=1) G41.F D__law_next_1 z_len z_range z_max z_min z_tuple);have D__law_drawn_3:=D G42 b42 (u0 (k:=2) G42.F (D__law_next_1.mono (by omega)) D__law_net_2 z_len z_range)
 have D_ask_length_2:=D G5 b5 (uL (k:=1) G5.F D_is_listed_1 z_len);have D_ask_values_3:=D G6 b6 (uM (k:=2) G6.F D_ask_length_2 D_is_below_2 z_len z_zip);have D_ask_bits_4:=D G7 b7 (wR (k:=3) G7.F (D_ask_length_2.mono (by omega)) D_ask_values_3 z_len)
 have D_gate_bits_1:=D G27 b27 (wW (k:=0) G27.F);have D_keeps_of_1:=D G10 b10 (uR (k:=0) G10.F clN nN_gates z_enumerate);have MkP:MakeOk l.prog w K mg base CX0 2 CP "NetPlayer" ["self", "net"] (spPly CN CP):=⟨⟨f57,_,wX (k:=1) F57 clN nN_gates nN_outs clP nP_gates nP_outs nP_ins nP_keeps nP_kept nP_bits D_ins_of_1 D_keeps_of_1,b57,⟨mkP,a57,i57,kcP⟩,mP⟩⟩;have MB:MethOk l.prog w K mg base CX0 5 CP "beat" ["self", "row"] (spBeat CP):=⟨clP,f58,_,xt (k:=4) F58 clP nP_gates nP_outs nP_ins nP_keeps nP_kept nP_bits D_ask_bits_4 (D_gate_bits_1.mono (by omega)) (D_feeds_of_1.mono (by omega)) z_len z_list z_dict z_zip z_enumerate,b58,⟨a58,i58,F58.kp⟩⟩
 have D__law_bits_2:=D G40 b40 (xw (k:=1) G40.F D__law_next_1 z_range);have D__law_bent_gate_1:=D G43 b43 (yi (k:=0) G43.F z_len);have D__law_bent_6:=D G44 b44 (yj (k:=4) G44.F clN nN_gates nN_outs MkN mN (D__law_next_1.mono (by omega)) (D__law_bent_gate_1.mono (by omega)) z_len z_list z_enumerate)
 have D__law_alike_6:=D G45 b45 (yk (k:=4) G45.F (MkP.mono (by omega)) mP MB z_list)
 exact yr (k:=6) G46.F clN nN_gates (MkN.mono (by omega)) mN (D__law_next_1.mono (by omega)) (D__law_drawn_3.mono (by omega)) D_made_small_7 (D__law_bits_2.mono (by omega)) (D_small_holds_5.mono (by omega)) (D__law_bent_6.mono (by omega)) (D__law_alike_6.mono (by omega)) z_len z_range z_min
end

end B17
namespace B17
open PySem L2
variable{P:Program}{w:World}{K:PySem.W.Frag}{ff:Addr}{ep:Nat}{sl:Array (Option Value)}{es:Array DictEntry}
def XS:List (Str × Tok × Value):=[("in",314,.int 0 315),("zero",316,.int 0 317),("one",318,.int 0 319),("not",320,.int 1 321),("and",322,.int 2 323),("or",324,.int 2 325),("xor",326,.int 2 327),("pick",328,.int 3 329)]
def VS:List V:=[.int 0,.int 0,.int 0,.int 1,.int 2,.int 2,.int 2,.int 3]
def KVS:List (Key × V):=(XS.map fun x=>(Sum.inr x.1:Key)).zip VS
theorem yz:(XS.map (·.1)).Nodup:=∅
theorem yA:Vals VS (XS.map (·.2.2)):=.cons ⟨_,rfl⟩ (.cons ⟨_,rfl⟩ (.cons ⟨_,rfl⟩ (.cons ⟨_,rfl⟩ (.cons ⟨_,rfl⟩ (.cons ⟨_,rfl⟩ (.cons ⟨_,rfl⟩ (.cons ⟨_,rfl⟩ (.nil))))))))
theorem yB {P:Program}{od:Option Addr} (l:K.lookup ff=some ⟨.type "dict",od,.dict es ep,sl⟩) (he:es.toList=XS.map (ent w))
  (hx:(⟨.type "dict",od,.dict es ep,sl⟩:Obj).ExactDict) (ns:(ff == sysModules)=false):KD P w K ff KVS:=kI XS VS l he hx ns yz yA
theorem yC:∀ w n,(w,n)∈FC->valV KVS (Sum.inr w)=some (.int n):=by
 intro w n h;simp only [FC,yZ,ze,zh,Prod.mk.injEq] at h;rcases h with ⟨rfl,rfl⟩ | ⟨rfl,rfl⟩ | ⟨rfl,rfl⟩ | ⟨rfl,rfl⟩ | ⟨rfl,rfl⟩ | ⟨rfl,rfl⟩ | ⟨rfl,rfl⟩ | ⟨rfl,rfl⟩ <;> rfl
def XR:List (Str × Tok × Value):=[("not",485,.ref 186),("and",486,.ref 193),("or",487,.ref 200),("xor",488,.ref 207),("pick",489,.ref 214)]
def VR:List V:=[.ref 186,.ref 193,.ref 200,.ref 207,.ref 214]
def KVR:List (Key × V):=(XR.map fun x=>(Sum.inr x.1:Key)).zip VR
theorem rkd {P:Program}{od:Option Addr} (l:K.lookup ff=some ⟨.type "dict",od,.dict es ep,sl⟩) (he:es.toList=XR.map (ent w))
  (hx:(⟨.type "dict",od,.dict es ep,sl⟩:Obj).ExactDict) (ns:(ff == sysModules)=false):KD P w K ff KVR:=kI XR VR l he hx ns ∅ (.cons rfl (.cons rfl (.cons rfl (.cons rfl (.cons rfl (.nil))))))
theorem yE:valV KVR (Sum.inr "not")=some (.ref 186):=∅
theorem yF:valV KVR (Sum.inr "and")=some (.ref 193):=∅
theorem yG:valV KVR (Sum.inr "or")=some (.ref 200):=∅
theorem yH:valV KVR (Sum.inr "xor")=some (.ref 207):=∅
theorem yI:valV KVR (Sum.inr "pick")=some (.ref 214):=∅
theorem yJ:([186,193,200,207,214]:List Addr).Nodup:=∅
theorem yK:∀ wo,wo ∉ RU->valV KVR (Sum.inr wo)=none:=fun wo h=>by
 simp only [RU,yZ,ze,zh,not_or] at h;obtain ⟨h1,h2,h3,h4,h5⟩:=h;simp [KVR,XR,VR,valV,List.zip,List.zipWith,yV h1,yV h2,yV h3,yV h4,yV h5,h1,h2,h3,h4,h5]
end B17
open PySem PySem.W PyProof.Rows
namespace PySem.W.Fast
theorem tw3280803688628979197:True:=trivial
theorem tw14354482983100328299:True:=trivial
theorem tw9843954535485261360:True:=trivial
theorem tw1282124095869423426:True:=trivial
theorem tw5954238356798974694:True:=trivial
theorem tw2329737872341093043:True:=trivial
theorem tw1474720737623832334:True:=trivial
theorem tw3913047040929102980:True:=trivial
theorem tw1109312447293099123:True:=trivial
theorem tw15878834708373779322:True:=trivial
theorem tw1514662404009307259:True:=trivial
theorem tw15283200644572826569:True:=trivial
theorem tw2310910238276409259:True:=trivial
theorem tw17481286444911442325:True:=trivial
theorem tw3220807630711007232:True:=trivial
theorem tw8623852830035678464:True:=trivial
theorem tw6363799573614340448:True:=trivial
theorem tw3387575181309918677:True:=trivial
theorem tw1021240072856014791:True:=trivial
theorem tw12383318990804727711:True:=trivial
theorem tw17942827416416877048:True:=trivial
theorem tw12948410423123098042:True:=trivial
theorem tw3016070119842177268:True:=trivial
theorem tw11308575116238290474:True:=trivial
theorem tw13614485786091722279:True:=trivial
theorem tw9942822215846362773:True:=trivial
theorem tw5793397481565296776:True:=trivial
theorem tw11109533846519966424:True:=trivial
theorem tw15484351910284782347:True:=trivial
theorem tw16209250064758073045:True:=trivial
theorem tw6189942234771437239:True:=trivial
theorem tw7525802367445598553:True:=trivial
theorem tw7156605809346020719:True:=trivial
theorem tw6724729733843611589:True:=trivial
theorem tw17311466618531734676:True:=trivial
theorem tw5086678141105428177:True:=trivial
theorem tw10937817455754388820:True:=trivial
theorem tw15952112527706949045:True:=trivial
theorem tw990291564556995974:True:=trivial
theorem tw166776142952199669:True:=trivial
theorem tw15816177719436851419:True:=trivial
theorem tw11960049209200089591:True:=trivial
theorem tw16108076802025439714:True:=trivial
theorem tw12260180311823264047:True:=trivial
theorem tw4177517498124171697:True:=trivial
theorem tw4790816888363090742:True:=trivial
theorem tw8459724328887304048:True:=trivial
theorem tw14665616742025068821:True:=trivial
theorem tw1527582960522993153:True:=trivial
theorem tw1601553285703296794:True:=trivial
theorem tw9924501745433961575:True:=trivial
theorem tw1423317601375757303:True:=trivial
theorem tw6986241255900223190:True:=trivial
theorem tw11178089498576256378:True:=trivial
theorem tw2405247402838938296:True:=trivial
theorem tw18007798832406268548:True:=trivial
theorem tw3248673811540669525:True:=trivial
theorem tw10026331443149895323:True:=trivial
theorem tw2718585287157078761:True:=trivial
theorem tw2455709754962979677:True:=trivial
theorem tw7976371789400870399:True:=trivial
theorem tw11173887448436075790:True:=trivial
theorem tw14394835401285233360:True:=trivial
theorem tw1325176931719323495:True:=trivial
theorem tw6942483302156068863:True:=trivial
theorem tw5422533062293902376:True:=trivial
theorem tw8793443482737023190:True:=trivial
theorem tw17522368397353003062:True:=trivial
theorem tw2289682403580466269:True:=trivial
theorem tw3063684133451630443:True:=trivial
theorem tw1846724394987522806:True:=trivial
theorem tw16216045132025679113:True:=trivial
theorem tw11218045600049964534:True:=trivial
theorem tw16280681785133572150:True:=trivial
theorem tw10471514477615049705:True:=trivial
theorem tw2969974945305507965:True:=trivial
theorem tw11647833174563979173:True:=trivial
theorem tw3997643543461971091:True:=trivial
theorem tw5354120437462601197:True:=trivial
theorem tw5528222061210257385:True:=trivial
theorem tw12226630506066568682:True:=trivial
theorem tw17694251200117804844:True:=trivial
theorem tw12130132073802449293:True:=trivial
theorem tw12792900285944164347:True:=trivial
theorem tw17593931150933230181:True:=trivial
theorem tw10131211873921376975:True:=trivial
theorem tw16671355085724580162:True:=trivial
theorem tw9180926201395256487:True:=trivial
theorem tw12163656984261690178:True:=trivial
theorem tw18363779396566737064:True:=trivial
theorem tw3981005189057142967:True:=trivial
theorem tw1351337308898770263:True:=trivial
theorem tw10980110665366743609:True:=trivial
theorem tw8145431850361071884:True:=trivial
theorem tw12790897130835800215:True:=trivial
theorem tw8528125148533477094:True:=trivial
theorem tw3277389198120283741:True:=trivial
theorem tw6864593268707236389:True:=trivial
theorem tw5487926836943157508:True:=trivial
theorem tw291712662868096216:True:=trivial
theorem tw17155183672225307066:True:=trivial
theorem tw2870872864938277043:True:=trivial
theorem tw13777122069679227063:True:=trivial
theorem tw2569804286872973311:True:=trivial
theorem tw521967439266217659:True:=trivial
theorem tw4918473825165606279:True:=trivial
theorem tw607931666967515802:True:=trivial
theorem tw8494616538932348542:True:=trivial
theorem tw10553283118457480163:True:=trivial
theorem tw17359731102889019851:True:=trivial
theorem tw12053822204872966358:True:=trivial
theorem tw15975386191456924477:True:=trivial
theorem tw15784290320679895510:True:=trivial
theorem tw15047618803417334400:True:=trivial
theorem tw3250052900782324001:True:=trivial
theorem tw5784643713401352263:True:=trivial
theorem tw17414491879084555763:True:=trivial
theorem tw18094366319143565869:True:=trivial
theorem tw16630066856588885204:True:=trivial
theorem tw2712899036422865350:True:=trivial
theorem tw9271898165859289463:True:=trivial
theorem tw9279053123667600313:True:=trivial
theorem tw2537655980470147673:True:=trivial
theorem tw10917586614730363242:True:=trivial
theorem tw3632992663400101083:True:=trivial
theorem tw11031017148547647427:True:=trivial
theorem tw6341362656315078429:True:=trivial
theorem tw17057719699331431606:True:=trivial
theorem tw2832629002703010127:True:=trivial
theorem tw15820895478059513602:True:=trivial
theorem tw13195504467478114599:True:=trivial
theorem tw16184607551419136318:True:=trivial
theorem tw2591543338665621470:True:=trivial
theorem tw1401744113133934788:True:=trivial
theorem tw16649451357113912806:True:=trivial
theorem tw2167138540406551948:True:=trivial
theorem tw8727594098656143004:True:=trivial
theorem tw10365019181798797118:True:=trivial
theorem tw4437126457357931193:True:=trivial
theorem tw17034354800633339426:True:=trivial
end PySem.W.Fast
set_option maxRecDepth 100000 in
set_option maxHeartbeats 0 in
theorem PySem.Challenge.cw_bitfloor_k27_no_paper_lies_holds : PySem.Challenge.rw_bitfloor_k27_no_paper_lies.Holds := by
 w_on; o_law; k_head; (case hw=>w_witness2)
 k_fill
 refine L2.rh (l:=PySem.Challenge.rw_bitfloor_k27_no_paper_lies) (n:=63) (k:=8) (x := "_law_script") (CX:=L2.CX0) (sp:=B17.spLaw) rfl (by decide) rfl ⟨rfl,by decide,by decide⟩ (fun w h Y=>PySem.W.kIn_of Y) ?F ?S ?C
 case F =>
  intro w mg fa h KX G hmg
  refine' B17.yy KX G hmg ?aSTWO_SIDED ?lSTWO_SIDED ?aN ?aS ?aP ⟨?a0,L2.aI ?l0 ?c0 ?k0⟩ ⟨?a1,L2.aI ?l1 ?c1 ?k1⟩ ⟨?a2,L2.aI ?l2 ?c2 ?k2⟩ ⟨?a3,L2.aI ?l3 ?c3 ?k3⟩ ⟨?a4,L2.aI ?l4 ?c4 ?k4⟩ ⟨?a5,L2.aI ?l5 ?c5 ?k5⟩ ⟨?a6,L2.aI ?l6 ?c6 ?k6⟩ ⟨?a7,L2.aI ?l7 ?c7 ?k7⟩ ⟨?a8,L2.aI ?l8 ?c8 ?k8⟩ ⟨?a9,L2.aI ?l9 ?c9 ?k9⟩ ⟨?a10,L2.aI ?l10 ?c10 ?k10⟩ ⟨?a11,L2.aI ?l11 ?c11 ?k11⟩ ⟨?a12,L2.aI ?l12 ?c12 ?k12⟩ ⟨?a13,L2.aI ?l13 ?c13 ?k13⟩ ⟨?a14,L2.aI ?l14 ?c14 ?k14⟩ ⟨?a15,L2.aI ?l15 ?c15 ?k15⟩ ⟨?a16,L2.aI ?l16 ?c16 ?k16⟩ ⟨?a17,L2.aI ?l17 ?c17 ?k17⟩ ⟨?a18,L2.aI ?l18 ?c18 ?k18⟩ ⟨?a19,L2.aI ?l19 ?c19 ?k19⟩ ⟨?a20,L2.aI ?l20 ?c20 ?k20⟩ ⟨?a21,L2.aI ?l21 ?c21 ?k21⟩ ⟨?a22,L2.aI ?l22 ?c22 ?k22⟩ ⟨?a23,L2.aI ?l23 ?c23 ?k23⟩ ⟨?a24,L2.aI ?l24 ?c24 ?k24⟩ ⟨?a25,L2.aI ?l25 ?c25 ?k25⟩ ⟨?a26,L2.aI ?l26 ?c26 ?k26⟩ ⟨?a27,L2.aI ?l27 ?c27 ?k27⟩ ⟨?a28,L2.aI ?l28 ?c28 ?k28⟩ ⟨?a29,L2.aI ?l29 ?c29 ?k29⟩ ⟨?a30,L2.aI ?l30 ?c30 ?k30⟩ ⟨?a31,L2.aI ?l31 ?c31 ?k31⟩ ⟨?a32,L2.aI ?l32 ?c32 ?k32⟩ ⟨?a33,L2.aI ?l33 ?c33 ?k33⟩ ⟨?a34,L2.aI ?l34 ?c34 ?k34⟩ ⟨?a35,L2.aI ?l35 ?c35 ?k35⟩ ⟨?a36,L2.aI ?l36 ?c36 ?k36⟩ ⟨?a37,L2.aI ?l37 ?c37 ?k37⟩ ⟨?a38,L2.aI ?l38 ?c38 ?k38⟩ ⟨?a39,L2.aI ?l39 ?c39 ?k39⟩ ⟨?a40,L2.aI ?l40 ?c40 ?k40⟩ ⟨?a41,L2.aI ?l41 ?c41 ?k41⟩ ⟨?a42,L2.aI ?l42 ?c42 ?k42⟩ ⟨?a43,L2.aI ?l43 ?c43 ?k43⟩ ⟨?a44,L2.aI ?l44 ?c44 ?k44⟩ ⟨?a45,L2.aI ?l45 ?c45 ?k45⟩ ⟨?a46,L2.aI ?l46 ?c46 ?k46⟩ ?a47 (L2.aI ?l47 ?c47 ?k47) ?i47 ?a48 (L2.aI ?l48 ?c48 ?k48) ?i48 ?a49 (L2.aI ?l49 ?c49 ?k49) ?i49 ?a50 (L2.aI ?l50 ?c50 ?k50) ?i50 ?a51 (L2.aI ?l51 ?c51 ?k51) ?i51 ?a52 (L2.aI ?l52 ?c52 ?k52) ?i52 ?a53 (L2.aI ?l53 ?c53 ?k53) ?i53 ?a54 (L2.aI ?l54 ?c54 ?k54) ?i54 ?a55 (L2.aI ?l55 ?c55 ?k55) ?i55 ?a56 (L2.aI ?l56 ?c56 ?k56) ?i56 ?a57 (L2.aI ?l57 ?c57 ?k57) ?i57 ?a58 (L2.aI ?l58 ?c58 ?k58) ?i58 ?pgN ?hdN ?poN ?saN ?mkN ?kcN ?nN_gates ?nN_outs ?pgS ?hdS ?poS ?saS ?mkS ?kcS ?nS_gates ?nS_numbers ?pgP ?hdP ?poP ?saP ?mkP ?kcP ?nP_gates ?nP_outs ?nP_ins ?nP_keeps ?nP_kept ?nP_bits ?z_len ?z_range ?z_int ?z_str ?z_isinstance ?z_zip ?z_list ?z_tuple ?z_bool ?z_all ?z_enumerate ?z_max ?z_min ?z_dict ?qaFC (B17.yB ?qlf ?qhe ?qhx ?qns) B17.yC ?qaRU (B17.rkd ?qlr ?qhr ?qhy ?qnr) B17.yE B17.yF B17.yG B17.yH B17.yI B17.yJ B17.yK
  (case aSTWO_SIDED=>k_is)
  (case lSTWO_SIDED=>k_is)
  (case aN=>k_is)
  (case aS=>k_is)
  (case aP=>k_is)
  (case a0=>k_is)
  (case l0=>k_is)
  (case c0=>k_is)
  (case k0=>k_is)
  (case a1=>k_is)
  (case l1=>k_is)
  (case c1=>k_is)
  (case k1=>k_is)
  (case a2=>k_is)
  (case l2=>k_is)
  (case c2=>k_is)
  (case k2=>k_is)
  (case a3=>k_is)
  (case l3=>k_is)
  (case c3=>k_is)
  (case k3=>k_is)
  (case a4=>k_is)
  (case l4=>k_is)
  (case c4=>k_is)
  (case k4=>k_is)
  (case a5=>k_is)
  (case l5=>k_is)
  (case c5=>k_is)
  (case k5=>k_is)
  (case a6=>k_is)
  (case l6=>k_is)
  (case c6=>k_is)
  (case k6=>k_is)
  (case a7=>k_is)
  (case l7=>k_is)
  (case c7=>k_is)
  (case k7=>k_is)
  (case a8=>k_is)
  (case l8=>k_is)
  (case c8=>k_is)
  (case k8=>k_is)
  (case a9=>k_is)
  (case l9=>k_is)
  (case c9=>k_is)
  (case k9=>k_is)
  (case a10=>k_is)
  (case l10=>k_is)
  (case c10=>k_is)
  (case k10=>k_is)
  (case a11=>k_is)
  (case l11=>k_is)
  (case c11=>k_is)
  (case k11=>k_is)
  (case a12=>k_is)
  (case l12=>k_is)
  (case c12=>k_is)
  (case k12=>k_is)
  (case a13=>k_is)
  (case l13=>k_is)
  (case c13=>k_is)
  (case k13=>k_is)
  (case a14=>k_is)
  (case l14=>k_is)
  (case c14=>k_is)
  (case k14=>k_is)
  (case a15=>k_is)
  (case l15=>k_is)
  (case c15=>k_is)
  (case k15=>k_is)
  (case a16=>k_is)
  (case l16=>k_is)
  (case c16=>k_is)
  (case k16=>k_is)
  (case a17=>k_is)
  (case l17=>k_is)
  (case c17=>k_is)
  (case k17=>k_is)
  (case a18=>k_is)
  (case l18=>k_is)
  (case c18=>k_is)
  (case k18=>k_is)
  (case a19=>k_is)
  (case l19=>k_is)
  (case c19=>k_is)
  (case k19=>k_is)
  (case a20=>k_is)
  (case l20=>k_is)
  (case c20=>k_is)
  (case k20=>k_is)
  (case a21=>k_is)
  (case l21=>k_is)
  (case c21=>k_is)
  (case k21=>k_is)
  (case a22=>k_is)
  (case l22=>k_is)
  (case c22=>k_is)
  (case k22=>k_is)
  (case a23=>k_is)
  (case l23=>k_is)
  (case c23=>k_is)
  (case k23=>k_is)
  (case a24=>k_is)
  (case l24=>k_is)
  (case c24=>k_is)
  (case k24=>k_is)
  (case a25=>k_is)
  (case l25=>k_is)
  (case c25=>k_is)
  (case k25=>k_is)
  (case a26=>k_is)
  (case l26=>k_is)
  (case c26=>k_is)
  (case k26=>k_is)
  (case a27=>k_is)
  (case l27=>k_is)
  (case c27=>k_is)
  (case k27=>k_is)
  (case a28=>k_is)
  (case l28=>k_is)
  (case c28=>k_is)
  (case k28=>k_is)
  (case a29=>k_is)
  (case l29=>k_is)
  (case c29=>k_is)
  (case k29=>k_is)
  (case a30=>k_is)
  (case l30=>k_is)
  (case c30=>k_is)
  (case k30=>k_is)
  (case a31=>k_is)
  (case l31=>k_is)
  (case c31=>k_is)
  (case k31=>k_is)
  (case a32=>k_is)
  (case l32=>k_is)
  (case c32=>k_is)
  (case k32=>k_is)
  (case a33=>k_is)
  (case l33=>k_is)
  (case c33=>k_is)
  (case k33=>k_is)
  (case a34=>k_is)
  (case l34=>k_is)
  (case c34=>k_is)
  (case k34=>k_is)
  (case a35=>k_is)
  (case l35=>k_is)
  (case c35=>k_is)
  (case k35=>k_is)
  (case a36=>k_is)
  (case l36=>k_is)
  (case c36=>k_is)
  (case k36=>k_is)
  (case a37=>k_is)
  (case l37=>k_is)
  (case c37=>k_is)
  (case k37=>k_is)
  (case a38=>k_is)
  (case l38=>k_is)
  (case c38=>k_is)
  (case k38=>k_is)
  (case a39=>k_is)
  (case l39=>k_is)
  (case c39=>k_is)
  (case k39=>k_is)
  (case a40=>k_is)
  (case l40=>k_is)
  (case c40=>k_is)
  (case k40=>k_is)
  (case a41=>k_is)
  (case l41=>k_is)
  (case c41=>k_is)
  (case k41=>k_is)
  (case a42=>k_is)
  (case l42=>k_is)
  (case c42=>k_is)
  (case k42=>k_is)
  (case a43=>k_is)
  (case l43=>k_is)
  (case c43=>k_is)
  (case k43=>k_is)
  (case a44=>k_is)
  (case l44=>k_is)
  (case c44=>k_is)
  (case k44=>k_is)
  (case a45=>k_is)
  (case l45=>k_is)
  (case c45=>k_is)
  (case k45=>k_is)
  (case a46=>k_is)
  (case l46=>k_is)
  (case c46=>k_is)
  (case k46=>k_is)
  (case a47=>k_is)
  (case l47=>k_is)
  (case c47=>k_is)
  (case k47=>k_is)
  (case i47=>k_is)
  (case a48=>k_is)
  (case l48=>k_is)
  (case c48=>k_is)
  (case k48=>k_is)
  (case i48=>k_is)
  (case a49=>k_is)
  (case l49=>k_is)
  (case c49=>k_is)
  (case k49=>k_is)
  (case i49=>k_is)
  (case a50=>k_is)
  (case l50=>k_is)
  (case c50=>k_is)
  (case k50=>k_is)
  (case i50=>k_is)
  (case a51=>k_is)
  (case l51=>k_is)
  (case c51=>k_is)
  (case k51=>k_is)
  (case i51=>k_is)
  (case a52=>k_is)
  (case l52=>k_is)
  (case c52=>k_is)
  (case k52=>k_is)
  (case i52=>k_is)
  (case a53=>k_is)
  (case l53=>k_is)
  (case c53=>k_is)
  (case k53=>k_is)
  (case i53=>k_is)
  (case a54=>k_is)
  (case l54=>k_is)
  (case c54=>k_is)
  (case k54=>k_is)
  (case i54=>k_is)
  (case a55=>k_is)
  (case l55=>k_is)
  (case c55=>k_is)
  (case k55=>k_is)
  (case i55=>k_is)
  (case a56=>k_is)
  (case l56=>k_is)
  (case c56=>k_is)
  (case k56=>k_is)
  (case i56=>k_is)
  (case a57=>k_is)
  (case l57=>k_is)
  (case c57=>k_is)
  (case k57=>k_is)
  (case i57=>k_is)
  (case a58=>k_is)
  (case l58=>k_is)
  (case c58=>k_is)
  (case k58=>k_is)
  (case i58=>k_is)
  (case pgN=>k_is)
  (case hdN=>k_is)
  (case poN=>k_is)
  (case saN=>k_is)
  (case mkN=>k_is)
  (case kcN=>k_is)
  (case nN_gates=>k_is)
  (case nN_outs=>k_is)
  (case pgS=>k_is)
  (case hdS=>k_is)
  (case poS=>k_is)
  (case saS=>k_is)
  (case mkS=>k_is)
  (case kcS=>k_is)
  (case nS_gates=>k_is)
  (case nS_numbers=>k_is)
  (case pgP=>k_is)
  (case hdP=>k_is)
  (case poP=>k_is)
  (case saP=>k_is)
  (case mkP=>k_is)
  (case kcP=>k_is)
  (case nP_gates=>k_is)
  (case nP_outs=>k_is)
  (case nP_ins=>k_is)
  (case nP_keeps=>k_is)
  (case nP_kept=>k_is)
  (case nP_bits=>k_is)
  (case z_len=>k_is)
  (case z_range=>k_is)
  (case z_int=>k_is)
  (case z_str=>k_is)
  (case z_isinstance=>k_is)
  (case z_zip=>k_is)
  (case z_list=>k_is)
  (case z_tuple=>k_is)
  (case z_bool=>k_is)
  (case z_all=>k_is)
  (case z_enumerate=>k_is)
  (case z_max=>k_is)
  (case z_min=>k_is)
  (case z_dict=>k_is)
  (case qaFC=>k_is)
  (case qlf=>k_is)
  (case qhe=>rfl)
  (case qhx=>exact ⟨rfl,rfl,rfl⟩)
  (case qns=>rfl)
  (case qaRU=>k_is)
  (case qlr=>k_is)
  (case qhr=>rfl)
  (case qhy=>exact ⟨rfl,rfl,rfl⟩)
  (case qnr=>rfl)
 case S=>exact fun K H a ns hl hO hS=>⟨a,ns,rfl,L2.Scr.of hS hl hO,fun _=>rfl⟩
 case C=>exact fun _ _ _ _ z=>z
