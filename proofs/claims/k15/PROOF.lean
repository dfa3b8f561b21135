import PyProof.Rows.All
import Wide.All
import OpenK.AllK
import Wide.FinOn
import Lean
import PyProof.EqAt
import PyProof.EqKinds
import PyProof.TupleCall
import PyProof.AttrMiss
import PyProof.ConsumeWalk
import KE.KDictOf
import OpenK.KOwn
import PyProof.NsDelKeeps
import KE.KIsAll
import PyProof.Rows.SumAny
import PyProof.NeKinds
import PyProof.SeqI3
import KE.KRevIter
import KE.KSortTup
import PyProof.DictIter
import KE.KDictList
import PyProof.TupleOfGen
import PyProof.ExcInit
import PyProof.InstStoreFacts
import OpenK.KCls
import PyProof.ListMulRoad
import PyProof.FactsAll.tuple
import PySem.Challenge.RW_bitfloor_k15_nets_made
import KE.RegKIsAll
set_option Elab.async false
set_option linter.all false
set_option maxRecDepth 100000
namespace L2
open PySem PySem.Spec PyProof.Rows
abbrev Key := Sum Int Str
def keyIs : Key → Value → Bool
 | .inl k, v => Value.isInt k v
 | .inr x, v => Value.isStrOf x v
def keyH (w : World) : Key → Int
 | .inl k => hashInt k
 | .inr x => hashStr w x
theorem zabp : ∀ {k : Key} {v : Value}, keyIs k v = true → (∃ i t, k = Sum.inl i ∧ v = Value.int i t) ∨ (∃ x t, k = Sum.inr x ∧ v = Value.str x t)
 | .inl i, v, h => by
  obtain ⟨t, e⟩ := Value.isInt_shape (k := i) (v := v) h
  exact .inl ⟨i, t, rfl, e⟩
 | .inr x, v, h => by
  obtain ⟨t, e⟩ := Value.isStrOf_shape (x := x) (v := v) h
  exact .inr ⟨x, t, rfl, e⟩
theorem zaiv (i : Int) (t : Tok) : keyIs (.inl i) (.int i t) = true := by simp [keyIs, Value.isInt]
theorem zaef (x : Str) (t : Tok) : keyIs (.inr x) (.str x t) = true := by simp [keyIs, Value.isStrOf]
theorem zan0 (a b : Int) : decide ((Sum.inl a : Key) = Sum.inl b) = (a == b) := by
 by_cases e : a = b
 ·subst e; simp
 ·have h : ¬ (Sum.inl a : Key) = Sum.inl b := fun q => e (Sum.inl.inj q)
  rw [decide_eq_false h]
  exact (beq_eq_false_iff_ne.mpr e).symm
theorem zan1 (a b : Str) : decide ((Sum.inr a : Key) = Sum.inr b) = decide (a = b) := by
 by_cases e : a = b
 ·subst e; simp
 ·have h : ¬ (Sum.inr a : Key) = Sum.inr b := fun q => e (Sum.inr.inj q)
  rw [decide_eq_false h, decide_eq_false e]
theorem zan2 (a : Int) (b : Str) : decide ((Sum.inl a : Key) = Sum.inr b) = false := decide_eq_false (fun q => nomatch q)
theorem zan3 (a : Str) (b : Int) : decide ((Sum.inr a : Key) = Sum.inl b) = false := decide_eq_false (fun q => nomatch q)
def mixKind (prog : Program) (w : World) : PySem.KeyKind prog w Key where
 is := keyIs
 hash := keyH w
 inj := fun v a b ha hb => by
  rcases zabp ha with ⟨i, t, rfl, rfl⟩ | ⟨x, t, rfl, rfl⟩
  ·rcases zabp hb with ⟨j, u, rfl, e⟩ | ⟨y, u, rfl, e⟩
   ·injection e with e1 _; rw [e1]
   ·exact nomatch e
  ·rcases zabp hb with ⟨j, u, rfl, e⟩ | ⟨y, u, rfl, e⟩
   ·exact nomatch e
   ·injection e with e1 _; rw [e1]
 byValue := fun k v h => by
  rcases zabp h with ⟨i, t, rfl, rfl⟩ | ⟨x, t, rfl, rfl⟩ <;> rfl
 pyHash := fun hv h => by
  rcases zabp hv with ⟨i, t, rfl, rfl⟩ | ⟨x, t, rfl, rfl⟩
  ·exact wpAny_pyHash_int h
  ·exact wpAny_pyHash_str h
 eqBool := fun hu hv h => by
  rcases zabp hu with ⟨i, t, rfl, rfl⟩ | ⟨x, t, rfl, rfl⟩
  ·rcases zabp hv with ⟨j, u, rfl, rfl⟩ | ⟨y, u, rfl, rfl⟩
   ·rw [zan0] at h; exact wpAny_eqBool_int h
   ·rw [zan2] at h; exact SeqAt.EqAt.int_str i t y u _ _ _ _ h
  ·rcases zabp hv with ⟨j, u, rfl, rfl⟩ | ⟨y, u, rfl, rfl⟩
   ·rw [zan3] at h; exact SeqAt.EqAt.str_int x t j u _ _ _ _ h
   ·rw [zan1] at h; exact wpAny_eqBool_str h
 «strs» := fun k x t v h => by
  rcases zabp h with ⟨i, u, rfl, e⟩ | ⟨y, u, rfl, e⟩
  ·exact nomatch e
  ·injection e with e1 _
   subst e1
   cases v <;> rfl
theorem zagv (prog : Program) (w : World) (i : Int) (t : Tok) : (mixKind prog w).is (.inl i) (.int i t) = true := zaiv i t
theorem zagw (prog : Program) (w : World) (x : Str) (t : Tok) : (mixKind prog w).is (.inr x) (.str x t) = true := zaef x t
inductive V where
 | non | bl (b : Bool) | int (i : Int) | str (x : Str) | byt (b : Array UInt8) | flt (b : UInt64) | ref (a : Addr) | ty (n : String)
 deriving DecidableEq
def RelV : V → Value → Prop
 | .non, u => u = Value.none
 | .bl b, u => u = Value.bool b
 | .int i, u => ∃ t, u = Value.int i t
 | .str x, u => ∃ t, u = Value.str x t
 | .byt b, u => ∃ t, u = Value.bytes b t
 | .flt b, u => ∃ t, u = Value.float b t
 | .ref a, u => u = Value.ref a
 | .ty n, u => u = Value.type n
abbrev Vals : List V → List Value → Prop := Paired RelV
theorem Vals.length {xs : List V} {us : List Value} (r : Vals xs us) : xs.length = us.length := Paired.length r
theorem Vals.get : ∀ {xs : List V} {us : List Value} {i : Nat} {x : V}, Vals xs us → xs[i]? = some x → ∃ u, us[i]? = some u ∧ RelV x u
 | _, _, _, _, .nil, e => by simp at e
 | _, _, 0, _, .cons r _, e => by simp at e; subst e; exact ⟨_, rfl, r⟩
 | _, _, i + 1, x, .cons _ t, e => by
  obtain ⟨u, h1, h2⟩ := Vals.get (i := i) (x := x) t (by simpa using e)
  exact ⟨u, by simpa using h1, h2⟩
theorem Vals.set {x : V} {u : Value} (r : RelV x u) : ∀ {xs : List V} {us : List Value} (i : Nat), Vals xs us → Vals (xs.set i x) (us.set i u)
 | _, _, _, .nil => .nil
 | _, _, 0, .cons _ t => .cons r t
 | _, _, i + 1, .cons q t => .cons q (Vals.set r i t)
theorem Vals.append : ∀ {xs ys : List V} {us ws : List Value}, Vals xs us → Vals ys ws → Vals (xs ++ ys) (us ++ ws)
 | _, _, _, _, .nil, s => s
 | _, _, _, _, .cons r t, s => .cons r (Vals.append t s)
theorem Vals.take : ∀ {xs : List V} {us : List Value} (n : Nat), Vals xs us → Vals (xs.take n) (us.take n)
 | _, _, 0, _ => .nil
 | _, _, _ + 1, .nil => .nil
 | _, _, n + 1, .cons r t => .cons r (Vals.take n t)
theorem Vals.drop : ∀ {xs : List V} {us : List Value} (n : Nat), Vals xs us → Vals (xs.drop n) (us.drop n)
 | _, _, 0, r => r
 | _, _, _ + 1, .nil => .nil
 | _, _, n + 1, .cons _ t => Vals.drop n t
def RelO : Option V → Option Value → Prop
 | some v, some u => RelV v u
 | none, none => True
 | _, _ => False
def KV {κ : Type} : List (κ × V) → List (κ × Value) → Prop := Paired fun (p : κ × V) (q : κ × Value) => p.1 = q.1 ∧ RelV p.2 q.2
def kV : Key → V
 | .inl i => .int i
 | .inr x => .str x
inductive HO where
 | lst (xs : List V)
 | tup (xs : List V)
 | dK (kvs : List (Key × V)) | dT (kvs : List (List Key × V))
 | set (S : Int → Bool) (n : Nat)
 | ins (C dx : Addr) (fs : List (Str × V))
 | own (x : Addr)
 | xd (fs : List (Str × V))
 | met (f x : Addr)
 | rng (lo hi : Int)
 | frz (o : Obj) (u : HO)
 | tbl (ps : Array Value)
 | ext (φ : Heap → Prop)
abbrev Hp := Addr → Option HO
def upd (H : Hp) (a : Addr) (o : HO) : Hp := fun b => if b = a then some o else H b
theorem zaak {H : Hp} {a : Addr} {o : HO} : upd H a o a = some o := by unfold upd; rw [if_pos rfl]
theorem zaax {H : Hp} {a b : Addr} {o : HO} (h : b ≠ a) : upd H a o b = H b := by unfold upd; rw [if_neg h]
theorem zamb {H : Hp} {a b : Addr} {o u : HO} (h : H a = some o) (h' : H b = some u) (d : o ≠ u) : a ≠ b := by
 intro e; subst e; rw [h] at h'; exact d (Option.some.inj h')
theorem zaan {H : Hp} {a b : Addr} {o : HO} (h : H a = some o) (h' : H b = none) : a ≠ b := by
 intro e; subst e; rw [h] at h'; cases h'
section
variable (P : Program) (w : World)
def ObjOk (H : Hp) (h : Heap) (a : Addr) : HO → Prop
 | .lst xs => xs.length ≤ sizeLine ∧ ∃ (its : List Value) (n : Nat), Vals xs its ∧ h.get? a = some { cls := .type "list", data := .seq its.toArray n }
 | .tup xs => xs.length ≤ sizeLine ∧ ∃ its : List Value, Vals xs its ∧ IsTup h a its.toArray
 | .dK kvs => kvs.length ≤ sizeLine ∧ (a == sysModules) = false ∧ ∃ vs, KV kvs vs ∧ h.DictOf (mixKind P w) a vs
 | .dT kvs => kvs.length ≤ sizeLine ∧ (a == sysModules) = false ∧ ∃ xs : List (List Key × Addr × Value),
   Paired (fun (p : List Key × V) (q : List Key × Addr × Value) => p.1 = q.1 ∧ H q.2.1 = some (.tup (p.1.map kV)) ∧ RelV p.2 q.2.2) kvs xs ∧
   ∃ o es ep, h.get? a = some o ∧ o.ExactDict ∧ o.data = .dict es ep ∧ es.toList = xs.map (entryOfKey (tupleKind (mixKind P w))) ∧ (xs.map (·.1)).Nodup
 | .set S n => h.SetOf (intKind P w) a S n
 | .ins C dx fs => H dx = some (.own a) ∧ fs.length ≤ 1000 ∧ dx ≠ a ∧ h.get? a = some (PySem.W.instObj C dx) ∧
   ∃ mA, h.Ns1 dx mA ∧ (∀ f, RelO (fs.lookup f) (mA f)) ∧ PySem.Within mA (fs.map (·.1))
 | .own _ => ∃ o, h.get? a = some o
 | .xd fs => ∃ mA, h.Ns1 a mA ∧ ∀ f, RelO (fs.lookup f) (mA f)
 | .rng lo hi => ∃ t u v, h.get? a = some { cls := .type "range", data := .fields #[.int lo t, .int hi u, .int 1 v] }
 | .frz o u => h.get? a = some o ∧ ObjOk H h a u
 | .tbl ps => h.get? a = some { cls := .none, data := .fields ps }
 | .met f x => h.get? a = some (PySem.W.methodObj (.ref f) (.ref x))
 | .ext φ => φ h ∧ (∃ o, h.get? a = some o) ∧ ∀ h1 h2 : Heap, φ h1 → (∀ o, h1.get? a = some o → h2.get? a = some o) → φ h2
def HOk (H : Hp) (h : Heap) : Prop := ∀ a o, H a = some o → ObjOk P w H h a o
end
section
variable {P : Program} {w : World} {H H' : Hp} {h h' : Heap} {a : Addr} {o : HO}
theorem ObjOk.lt (x : ObjOk P w H h a o) : a < h.objs.size := by
 cases o with
 | lst xs => obtain ⟨_, _, _, _, e⟩ := x; exact Heap.lt_size e
 | tup xs => obtain ⟨_, _, _, p⟩ := x; exact p.lt
 | dK kvs => obtain ⟨_, _, _, _, o, _, _, e, _⟩ := x; exact Heap.lt_size e
 | dT kvs => obtain ⟨_, _, _, _, o, _, _, e, _⟩ := x; exact Heap.lt_size e
 | set S n => obtain ⟨o, _, _, _, e, _⟩ := x; exact Heap.lt_size e
 | ins C dx fs => obtain ⟨_, _, _, e, _⟩ := x; exact Heap.lt_size e
 | own y => obtain ⟨_, e⟩ := x; exact Heap.lt_size e
 | xd fs => obtain ⟨_, ⟨_, _, _, e, _⟩, _⟩ := x; exact Heap.lt_size e
 | rng lo hi => obtain ⟨_, _, _, e⟩ := x; exact Heap.lt_size e
 | frz ob u => obtain ⟨e, _⟩ := x; exact Heap.lt_size e
 | tbl ps => exact Heap.lt_size (show h.get? a = some _ from x)
 | met f y => exact Heap.lt_size (show h.get? a = some _ from x)
 | ext φ => obtain ⟨_, ⟨_, e⟩, _⟩ := x; exact Heap.lt_size e
theorem Paired.mapP {α β : Type} {F G : α → β → Prop} : ∀ {l₁ : List α} {l₂ : List β}, Paired F l₁ l₂ → (∀ a b, F a b → G a b) → Paired G l₁ l₂
 | _, _, .nil, _ => .nil
 | _, _, .cons r t, f => .cons (f _ _ r) (Paired.mapP t f)
theorem ObjOk.stay (x : ObjOk P w H h a o) (k : ∀ b u, (b = a ∨ H b = some (.own a)) → h.get? b = some u → h'.get? b = some u)
  (ho : ∀ b, H b = some (.own a) → H' b = some (.own a)) (ht : ∀ b xs, H b = some (.tup xs) → H' b = some (.tup xs)) : ObjOk P w H' h' a o := by
 induction o with
 | lst xs => obtain ⟨z, its, n, r, e⟩ := x; exact ⟨z, its, n, r, k _ _ (.inl rfl) e⟩
 | tup xs => obtain ⟨z, its, r, ob, e, c⟩ := x; exact ⟨z, its, r, ob, k _ _ (.inl rfl) e, c⟩
 | dK kvs => obtain ⟨z, y, vs, r, ob, es, ep, e, c⟩ := x; exact ⟨z, y, vs, r, ob, es, ep, k _ _ (.inl rfl) e, c⟩
 | dT kvs =>
  obtain ⟨z, y, xs, r, ob, es, ep, e, c⟩ := x
  exact ⟨z, y, xs, Paired.mapP r fun p q z => ⟨z.1, ht _ _ z.2.1, z.2.2⟩, ob, es, ep, k _ _ (.inl rfl) e, c⟩
 | set S n => obtain ⟨ob, es, ep, t, e, c⟩ := x; exact ⟨ob, es, ep, t, k _ _ (.inl rfl) e, c⟩
 | ins C dx fs =>
  obtain ⟨d, z, ne, e, mA, ⟨od, es, ep, e2, c⟩, r⟩ := x
  exact ⟨ho _ d, z, ne, k _ _ (.inl rfl) e, mA, ⟨od, es, ep, k _ _ (.inr d) e2, c⟩, r⟩
 | own y => obtain ⟨ob, e⟩ := x; exact ⟨ob, k _ _ (.inl rfl) e⟩
 | xd fs => obtain ⟨mA, ⟨od, es, ep, e, c⟩, r⟩ := x; exact ⟨mA, ⟨od, es, ep, k _ _ (.inl rfl) e, c⟩, r⟩
 | rng lo hi => obtain ⟨t, u, v, e⟩ := x; exact ⟨t, u, v, k _ _ (.inl rfl) e⟩
 | frz ob u ih => obtain ⟨e, q⟩ := x; exact ⟨k _ _ (.inl rfl) e, ih q⟩
 | tbl ps =>
  have e : h.get? a = some { cls := .none, data := .fields ps } := x
  show h'.get? a = some { cls := .none, data := .fields ps }
  exact k a _ (.inl rfl) e
 | met f y =>
  have e : h.get? a = some (PySem.W.methodObj (.ref f) (.ref y)) := x
  show h'.get? a = some (PySem.W.methodObj (.ref f) (.ref y))
  exact k a _ (.inl rfl) e
 | ext φ => obtain ⟨p, ⟨o, e⟩, st⟩ := x; exact ⟨st _ _ p fun o q => k _ _ (.inl rfl) q, ⟨o, k _ _ (.inl rfl) e⟩, st⟩
theorem HOk.lt (x : HOk P w H h) (e : H a = some o) : a < h.objs.size := (x a o e).lt
theorem HOk.fresh (x : HOk P w H h) (e : h.objs.size ≤ a) : H a = none := by
 cases q : H a with
 | none => rfl
 | some u => exact absurd (Nat.lt_of_lt_of_le (x.lt q) e) (Nat.lt_irrefl _)
theorem HOk.kept (x : HOk P w H h) (k : ∀ b u, h.get? b = some u → h'.get? b = some u) : HOk P w H h' := fun a o e =>
 (x a o e).stay (fun b u _ q => k b u q) (fun _ q => q) fun _ _ q => q
theorem HOk.laid (x : HOk P w H h) (k : ∀ b u, h.get? b = some u → h'.get? b = some u) (hp : h.objs.size ≤ a) (new : ObjOk P w (upd H a o) h' a o) : HOk P w (upd H a o) h' := fun b u e => by
 have hn := x.fresh hp
 by_cases hb : b = a
 ·subst hb; rw [zaak] at e; cases e; exact new
 ·rw [zaax hb] at e
  exact (x b u e).stay (fun c v _ q => k c v q) (fun c q => by rw [zaax (zaan q hn)]; exact q) fun c xs q => by rw [zaax (zaan q hn)]; exact q
end
def Rd (H : Hp) (a : Addr) (u : HO) : Prop := H a = some u ∨ ∃ o, H a = some (.frz o u)
theorem Rd.ok {P : Program} {w : World} {H : Hp} {h : Heap} {a : Addr} {u : HO} (r : Rd H a u) (x : HOk P w H h) : ObjOk P w H h a u := by
 rcases r with r | ⟨o, r⟩
 ·exact x a u r
 ·obtain ⟨_, q⟩ := x a _ r
  exact q
def Mut : Option HO → Prop
 | some (.lst _) => True
 | some (.dK _) => True
 | some (.dT _) => True
 | some (.set _ _) => True
 | some (.ins _ _ _) => True
 | some (.ext _) => True
 | _ => False
section
variable {P : Program} {w : World} {H : Hp} {h h' : Heap} {x e : Addr} {o' : HO}
theorem HOk.write (ok : HOk P w H h) (mu : Mut (H x)) (he : e = x ∨ H e = some (.own x)) (k : ∀ b u, b ≠ e → h.get? b = some u → h'.get? b = some u) (heo : ∃ u, h'.get? e = some u)
  (new : ObjOk P w (upd H x o') h' x o') : HOk P w (upd H x o') h' := fun b u q => by
 have nown : ∀ c y, H c = some (.own y) → c ≠ x := fun c y r z => by subst z; rw [r] at mu; exact mu
 have ntup : ∀ c xs, H c = some (.tup xs) → c ≠ x := fun c xs r z => by subst z; rw [r] at mu; exact mu
 by_cases hb : b = x
 ·subst hb; rw [zaak] at q; cases q; exact new
 ·rw [zaax hb] at q
  by_cases hbe : b = e
  ·have q' : H b = some (.own x) := by
    rcases he with z | z
    ·exact absurd (hbe.trans z) hb
    ·rw [hbe]; exact z
   rw [q] at q'; cases q'
   obtain ⟨v, hv⟩ := heo
   exact ⟨v, by rw [hbe]; exact hv⟩
  ·refine (ok b u q).stay (fun c v hc r => k c v ?_ r) (fun c r => by rw [zaax (nown c b r)]; exact r) fun c xs r => by rw [zaax (ntup c xs r)]; exact r
   rcases hc with rfl | hc
   ·exact hbe
   ·rintro rfl
    rcases he with z | z
    ·exact nown c b hc z
    ·rw [hc] at z; cases z; exact hb rfl
end
structure Un (fs ex : List Addr) (H H' : Hp) (h h' : Heap) : Prop where
 keep : ∀ b o, h.get? b = some o → H b = none → b ∉ fs → b ∉ ex → h'.get? b = some o
 slot : ∀ b o, h.get? b = some o → H b = none → b ∈ fs → b ∉ ex → ∃ sl, h'.get? b = some { o with slots := sl }
 free : ∀ b o, h.get? b = some o → H b = none → b ∉ ex → H' b = none
 there : ∀ b o, h.get? b = some o → b ∉ ex → ∃ o', h'.get? b = some o'
 tups : ∀ b xs, H b = some (.tup xs) → H' b = some (.tup xs)
 frzs : ∀ b o u, H b = some (.frz o u) → H' b = some (.frz o u)
 tbls : ∀ b ps, H b = some (.tbl ps) → ∃ more, H' b = some (.tbl (ps ++ more))
section
variable {fs fs' ex ex' : List Addr} {H H1 H2 : Hp} {h h1 h2 h' : Heap} {a x e : Addr} {o : HO}
theorem Un.any (u : Un fs ex H H1 h h1) {b : Addr} {ob : Obj} (q : h.get? b = some ob) (n : H b = none) (hx : b ∉ ex) : ∃ sl, h1.get? b = some { ob with slots := sl } := by
 by_cases hb : b ∈ fs
 ·exact u.slot b ob q n hb hx
 ·exact ⟨ob.slots, u.keep b ob q n hb hx⟩
theorem Un.kept (k : ∀ b u, h.get? b = some u → h'.get? b = some u) : Un fs ex H H h h' :=
 ⟨fun b ob q _ _ _ => k b ob q, fun b ob q _ _ _ => ⟨ob.slots, k b ob q⟩, fun _ _ _ n _ => n, fun b ob q _ => ⟨ob, k b ob q⟩, fun _ _ q => q, fun _ _ _ q => q, fun _ ps q => ⟨#[], by rw [q]; simp⟩⟩
theorem Un.refl : Un fs ex H H h h := Un.kept fun _ _ q => q
theorem Un.laid (k : ∀ b u, h.get? b = some u → h'.get? b = some u) (hp : h.objs.size ≤ a) (hn : H a = none) : Un fs ex H (upd H a o) h h' where
 keep := fun b u q _ _ _ => k b u q
 slot := fun b u q _ _ _ => ⟨u.slots, k b u q⟩
 free := fun b u q n _ => by rw [zaax (Nat.ne_of_lt (Nat.lt_of_lt_of_le (Heap.lt_size q) hp))]; exact n
 there := fun b u q _ => ⟨u, k b u q⟩
 tups := fun b xs q => by rw [zaax (zaan q hn)]; exact q
 frzs := fun b u xs q => by rw [zaax (zaan q hn)]; exact q
 tbls := fun b ps q => ⟨#[], by rw [zaax (zaan q hn), q]; simp⟩
theorem Un.write (mu : Mut (H x)) (he : e = x ∨ H e = some (.own x)) (k : ∀ b u, b ≠ e → h.get? b = some u → h'.get? b = some u) (heo : ∃ u, h'.get? e = some u) : Un fs ex H (upd H x o) h h' := by
 have hx : ∀ b, H b = none → b ≠ x := fun b n z => by subst z; rw [n] at mu; exact mu
 have hb : ∀ b, H b = none → b ≠ e := fun b n z => by
  subst z
  rcases he with r | r
  ·exact hx b n r
  ·rw [n] at r; cases r
 have hm : ∀ b u, H b = some u → ¬ Mut (some u) → b ≠ x := fun b u q nm z => by subst z; rw [q] at mu; exact nm mu
 refine ⟨fun b u q n _ _ => k b u (hb b n) q, fun b u q n _ _ => ⟨u.slots, k b u (hb b n) q⟩, fun b u q n _ => by rw [zaax (hx b n)]; exact n, fun b u q _ => ?_,
  fun b xs q => by rw [zaax (hm b _ q fun z => z)]; exact q, fun b u xs q => by rw [zaax (hm b _ q fun z => z)]; exact q, fun b ps q => ⟨#[], by rw [zaax (hm b _ q fun z => z), q]; simp⟩⟩
 by_cases hbe : b = e
 ·subst hbe; exact heo
 ·exact ⟨u, k b u hbe q⟩
end
def trk (h : Heap) (H : Hp) : List Addr := (List.range h.objs.size).filter fun a => (H a).isSome
def hidT (h : Heap) (H : Hp) : Heap := PySem.W.hideAll h (trk h H)
theorem zaiw (h : Heap) (H : Hp) : (hidT h H).objs.size = h.objs.size := PySem.W.hideAll_size _ _
theorem zakp {h : Heap} {H : Hp} {b : Addr} {o : Obj} (e : h.get? b = some o) (n : H b = none) : (hidT h H).get? b = some o :=
 PySem.W.hideAll_get _ e fun hm => by
  have q : (H b).isSome = true := (List.mem_filter.mp hm).2
  rw [n] at q; simp at q
theorem zamc {h : Heap} {H : Hp} {b : Addr} {o : Obj} (e : (hidT h H).get? b = some o) : h.get? b = some o ∧ H b = none := by
 have e' : h.get? b = some o := PySem.W.of_hideAll (trk h H) e
 refine ⟨e', ?_⟩
 cases q : H b with
 | none => rfl
 | some x =>
  have hm : b ∈ trk h H := List.mem_filter.mpr ⟨List.mem_range.mpr (Heap.lt_size e'), by simp [q]⟩
  have z : (hidT h H).get? b = none := PySem.W.hideAll_none (trk h H) hm
  rw [z] at e; cases e
def allNews (g h : Heap) (L : Addr) : List (Addr × Obj) := (List.range h.objs.size).filterMap fun a => if a = L ∨ (g.get? a).isSome = true then none else (h.get? a).map fun o => (a, o)
def rest (g h : Heap) (L d : Addr) : List (Addr × Obj) := (allNews g h L).filter fun p => decide (p.1 ≠ d)
structure Mod (K : PySem.W.Frag) (mg : Str → Option Value) (base : Heap) : Prop where
 kin : K.In base
 glob : base.Ns mainGlobals mg
 blt : ∃ mb, base.Ns builtinsNs mb ∧ ∀ x : Str, x ≠ "__name__" → mb x = bootBuiltins x
 nolimit : base.NoLimit
structure Cx where
 prog : Program
 w : World
 K : PySem.W.Frag
 mg : Str → Option Value
 base : Heap
 A : Around
 N : List Str
 s₀ : Shared
 H₀ : Hp
 env : Env
 outer : List Env
 stack : List Env
 ex : List Addr
 fn : Str → Bool
 calm : Bool
 pn : List (Addr × Obj)
 xe : Value → Shared → Prop
def frs (l : List Env) : List Addr := l.filterMap (·.frame)
abbrev Cx.fs (X : Cx) : List Addr := frs X.outer
def Vis (sc : Scope) (x : Str) : Prop := sc.names.lookup x = some .local ∨ sc.names.lookup x = some .cell ∨ sc.names.lookup x = some .free
def Loc (sc : Scope) (x : Str) : Prop := sc.names.lookup x = some .local ∨ sc.names.lookup x = some .cell
def Look (env : Env) (h : Heap) (m : Str → Option Value) (x : Str) (u : Value) : Prop :=
 (env.kindOf x = some .local ∧ m x = some u) ∨ ((env.kindOf x = some .cell ∨ env.kindOf x = some .free) ∧ ∃ c, env.cells.lookup x = some c ∧ h.IsCell c (some u))
structure Cx.Ok (X : Cx) : Prop where
 mod : Mod X.K X.mg X.base
 kind : X.env.scope.kind = .function
 glob : X.env.globals = mainGlobals
 blt : X.env.builtins = builtinsNs
 above : X.s₀.heap.objs.size ≤ X.env.locals
 inj : ∀ x y c, X.env.cells.lookup x = some c → X.env.cells.lookup y = some c → x = y
 has : ∀ x, (X.env.kindOf x = some .cell ∨ X.env.kindOf x = some .free) → ∃ c, X.env.cells.lookup x = some c
 cab : ∀ x c, X.fn x = true → X.env.cells.lookup x = some c → X.s₀.heap.objs.size ≤ c
 hd : X.calm = true → X.A.handled = none
 frames : X.A.frames = some X.stack
 stk : X.stack = X.outer ∨ (X.stack = X.env :: X.outer ∧ X.env.frame = some X.env.locals)
 exf : ∀ b ∈ X.ex, b ≠ X.env.locals ∧ ∀ x c, X.env.cells.lookup x = some c → c ≠ b
 bs : ∀ b o, X.base.get? b = some o → X.s₀.heap.get? b = some o ∧ X.H₀ b = none
 bsz : X.base.objs.size ≤ X.s₀.heap.objs.size
 noex : ∀ b o, X.base.get? b = some o → b ∉ X.ex
 exfs : ∀ b ∈ X.ex, b ∉ X.fs
 funs : X.s₀.heap.FunFrames X.base X.outer
 frf : ∀ b ∈ X.fs, X.H₀ b = none
structure Inv (X : Cx) (pins : List (Addr × Obj)) (σ : List (Option V)) (H : Hp) (s : Shared) : Prop where
 ok : X.Ok
 os : s.os = X.s₀.os
 bare : AllBare s.gens
 base : Un X.fs X.ex X.H₀ H X.s₀.heap s.heap
 loc : ∃ m, s.heap.Ns X.env.locals m ∧ ∀ (i : Nat) (x : Str) (v : V), X.N[i]? = some x → σ[i]? = some (some v) → Vis X.env.scope x → ∃ u, RelV v u ∧ Look X.env s.heap m x u
 cell : ∀ x c, X.env.cells.lookup x = some c → ∃ v, s.heap.IsCell c v
 free : H X.env.locals = none
 freeC : ∀ x c, X.env.cells.lookup x = some c → H c = none
 pin : ∀ p ∈ X.pn ++ pins, s.heap.get? p.1 = some p.2 ∧ H p.1 = none ∧ p.1 ≠ X.env.locals ∧ p.1 ∉ X.fs ∧ ∀ v, p.2.data ≠ .cell v
 hok : HOk X.prog X.w H s.heap
 len : σ.length = X.N.length
section
variable {X : Cx} {pins : List (Addr × Obj)} {σ : List (Option V)} {H H' : Hp} {s : Shared} {h' : Heap}
theorem Cx.Ok.nofr (ok : X.Ok) {b : Addr} {o : Obj} (e : X.base.get? b = some o) : b ∉ X.fs := fun hb => by
 have := (ok.funs.mem hb).1
 rw [e] at this; cases this
theorem Inv.bs (I : Inv X pins σ H s) : ∀ b o, X.base.get? b = some o → s.heap.get? b = some o ∧ H b = none := fun b o e =>
 ⟨I.base.keep b o (I.ok.bs b o e).1 (I.ok.bs b o e).2 (I.ok.nofr e) (I.ok.noex b o e), I.base.free b o (I.ok.bs b o e).1 (I.ok.bs b o e).2 (I.ok.noex b o e)⟩
theorem Inv.bk (I : Inv X pins σ H s) : ∀ b o, X.base.get? b = some o → s.heap.get? b = some o := fun b o e => (I.bs b o e).1
theorem Inv.mod (I : Inv X pins σ H s) : Mod X.K X.mg X.base := I.ok.mod
theorem Inv.kIn (I : Inv X pins σ H s) : X.K.In s.heap := I.ok.mod.kin.keeps I.bk
theorem Inv.lt (I : Inv X pins σ H s) : X.env.locals < s.heap.objs.size := let ⟨_, hn, _⟩ := I.loc; hn.lt
theorem Inv.sz (I : Inv X pins σ H s) : X.s₀.heap.objs.size ≤ s.heap.objs.size := Nat.le_trans I.ok.above (Nat.le_of_lt I.lt)
theorem Inv.nofs (I : Inv X pins σ H s) {a : Addr} (h : s.heap.objs.size ≤ a) : a ∉ X.fs := fun hb => by
 obtain ⟨_, o, ho, _⟩ := I.ok.funs.mem hb
 exact absurd (Nat.lt_of_lt_of_le (Heap.lt_size ho) (Nat.le_trans I.sz h)) (Nat.lt_irrefl _)
theorem Inv.cne (I : Inv X pins σ H s) : ∀ x c, X.env.cells.lookup x = some c → c ≠ X.env.locals := fun x c e z => by
 obtain ⟨v, o, ho, hd⟩ := I.cell x c e
 obtain ⟨m, ⟨o', es, ep, ho', hd', _⟩, _⟩ := I.loc
 rw [z, ho'] at ho; cases ho; rw [hd'] at hd; cases hd
theorem Inv.funs (I : Inv X pins σ H s) : s.heap.FunFrames X.base X.outer := by
 have all : ∀ (l : List Env), (∀ b ∈ frs l, b ∈ X.fs) → X.s₀.heap.FunFrames X.base l → s.heap.FunFrames X.base l := by
  intro l
  induction l with
  | nil => intro _ _; trivial
  | cons env r ih =>
   intro hs hl
   obtain ⟨hk, ⟨L, o, hf, hn, ho, hd⟩, hr⟩ := hl
   have hL : L ∈ X.fs := hs L (by unfold frs; rw [List.filterMap_cons, hf]; exact List.mem_cons_self)
   obtain ⟨sl, e⟩ := I.base.slot L o ho (I.ok.frf L hL) hL fun z => I.ok.exfs L z hL
   exact ⟨hk, ⟨L, _, hf, hn, e, hd⟩, ih (fun b hb => hs b (by unfold frs; rw [List.filterMap_cons, hf]; exact List.mem_cons_of_mem _ hb)) hr⟩
 exact all X.outer (fun _ hb => hb) I.ok.funs
theorem Inv.stack (I : Inv X pins σ H s) : s.heap.FunFrames X.base X.stack := by
 rcases I.ok.stk with e | ⟨e, hf⟩
 ·rw [e]; exact I.funs
 ·rw [e]
  obtain ⟨m, hn, _⟩ := I.loc
  refine .cons (by rw [I.ok.kind]; decide) hf hn ?_ I.funs
  exact Heap.get?_none_of_le (Nat.le_trans I.ok.bsz I.ok.above)
theorem Inv.stkSub (I : Inv X pins σ H s) : ∀ b ∈ frs X.stack, b ∈ X.env.locals :: X.fs := fun b hb => by
 rcases I.ok.stk with e | ⟨e, hf⟩
 ·rw [e] at hb; exact List.mem_cons_of_mem _ hb
 ·rw [e] at hb
  unfold frs at hb
  rw [List.filterMap_cons, hf] at hb
  exact hb
theorem Inv.stkFree (I : Inv X pins σ H s) : ∀ b ∈ frs X.stack, H b = none := fun b hb => by
 rcases List.mem_cons.mp (I.stkSub b hb) with e | hb
 ·rw [e]; exact I.free
 ·obtain ⟨_, o, ho, _⟩ := I.ok.funs.mem hb
  exact I.base.free b o ho (I.ok.frf b hb) fun z => I.ok.exfs b z hb
theorem Inv.step {g' : Array GenState} {t' : Nat} {d' : Drawn} {ch : List Addr} (I : Inv X pins σ H s)
  (hch : ∀ b ∈ ch, (b ∈ X.ex ∨ X.s₀.heap.objs.size ≤ b) ∧ b ≠ X.env.locals ∧ (∀ x c, X.env.cells.lookup x = some c → c ≠ b) ∧ ∀ p ∈ X.pn ++ pins, p.1 ≠ b)
  (keep : ∀ b o, b ≠ X.env.locals → b ∉ X.fs → b ∉ ch → s.heap.get? b = some o → H b = none → h'.get? b = some o)
  (slot : ∀ b o, b ≠ X.env.locals → b ∈ X.fs → b ∉ ch → s.heap.get? b = some o → H b = none → ∃ sl, h'.get? b = some { o with slots := sl }) (free : ∀ b o, b ∉ ch → s.heap.get? b = some o → H b = none → H' b = none)
  (there : ∀ b o, b ∉ ch → s.heap.get? b = some o → ∃ o', h'.get? b = some o')
  (tups : ∀ b xs, H b = some (.tup xs) → H' b = some (.tup xs)) (frzs : ∀ b o u, H b = some (.frz o u) → H' b = some (.frz o u)) (tbls : ∀ b ps, H b = some (.tbl ps) → ∃ more, H' b = some (.tbl (ps ++ more)))
  (ns : ∀ m, s.heap.Ns X.env.locals m → h'.Ns X.env.locals m) (hok : HOk X.prog X.w H' h') (hg : AllBare g') :
  Inv X pins σ H' { s with heap := h', gens := g', drawn := d', toks := t' } := by
 have neL : ∀ b o, X.s₀.heap.get? b = some o → b ≠ X.env.locals := fun b o e => Nat.ne_of_lt (Nat.lt_of_lt_of_le (Heap.lt_size e) I.ok.above)
 have neC : ∀ b o, X.s₀.heap.get? b = some o → b ∉ X.ex → b ∉ ch := fun b o e hx hb => by
  rcases (hch b hb).1 with z | z
  ·exact hx z
  ·exact absurd (Nat.lt_of_lt_of_le (Heap.lt_size e) z) (Nat.lt_irrefl _)
 have cellK : ∀ x c, X.env.cells.lookup x = some c → ∀ v, s.heap.IsCell c v → h'.IsCell c v := fun x c e v ⟨o, ho, hd⟩ => by
  have nch : c ∉ ch := fun z => (hch c z).2.2.1 x c e rfl
  by_cases hc : c ∈ X.fs
  ·obtain ⟨sl, q⟩ := slot c o (I.cne x c e) hc nch ho (I.freeC x c e)
   exact ⟨_, q, hd⟩
  ·exact ⟨o, keep c o (I.cne x c e) hc nch ho (I.freeC x c e), hd⟩
 refine ⟨I.ok, I.os, hg, ⟨fun b o e n hb hx => ?_, fun b o e n hb hx => ?_, fun b o e n hx => ?_, fun b o e hx => ?_, fun b xs e => tups b xs (I.base.tups b xs e), fun b o xs e => frzs b o xs (I.base.frzs b o xs e), fun b ps e => ?_⟩, ?_, fun x c e => ?_, ?_, fun x c e => ?_, fun p hp => ?_, hok, I.len⟩
 ·exact keep b o (neL b o e) hb (neC b o e hx) (I.base.keep b o e n hb hx) (I.base.free b o e n hx)
 ·obtain ⟨sl, e1⟩ := I.base.slot b o e n hb hx
  obtain ⟨sl', e2⟩ := slot b _ (neL b o e) hb (neC b o e hx) e1 (I.base.free b o e n hx)
  exact ⟨sl', e2⟩
 ·obtain ⟨o', e1⟩ := I.base.there b o e hx
  exact free b o' (neC b o e hx) e1 (I.base.free b o e n hx)
 ·obtain ⟨o', e1⟩ := I.base.there b o e hx
  exact there b o' (neC b o e hx) e1
 ·obtain ⟨m1, e1⟩ := I.base.tbls b ps e
  obtain ⟨m2, e2⟩ := tbls b _ e1
  exact ⟨m1 ++ m2, by rw [e2, Array.append_assoc]⟩
 ·obtain ⟨m, hn, hl⟩ := I.loc
  refine ⟨m, ns m hn, fun i x v e1 e2 e3 => ?_⟩
  obtain ⟨u, r, l⟩ := hl i x v e1 e2 e3
  refine ⟨u, r, ?_⟩
  rcases l with l | ⟨k, c, e, z⟩
  ·exact .inl l
  ·exact .inr ⟨k, c, e, cellK x c e _ z⟩
 ·obtain ⟨v, z⟩ := I.cell x c e
  exact ⟨v, cellK x c e v z⟩
 ·obtain ⟨m, ⟨o, _, _, ho, _⟩, _⟩ := I.loc
  exact free _ o (fun z => (hch _ z).2.1 rfl) ho I.free
 ·obtain ⟨v, o, ho, hd⟩ := I.cell x c e
  exact free c o (fun z => (hch c z).2.2.1 x c e rfl) ho (I.freeC x c e)
 ·obtain ⟨e, n, ne, nf, d⟩ := I.pin p hp
  have nch : p.1 ∉ ch := fun z => (hch p.1 z).2.2.2 p hp rfl
  exact ⟨keep p.1 p.2 ne nf nch e n, free p.1 p.2 nch e n, ne, nf, d⟩
theorem Inv.un {t' : Nat} (I : Inv X pins σ H s) (u : Un X.fs [] H H' s.heap h') (hok : HOk X.prog X.w H' h') : Inv X pins σ H' { s with heap := h', toks := t' } := by
 obtain ⟨m, ⟨o, es, ep, ho, r⟩, _⟩ := id I.loc
 obtain ⟨sl, hL⟩ := u.any ho I.free (by simp)
 exact I.step (g' := s.gens) (d' := s.drawn) (ch := []) (fun _ z => nomatch z) (fun b o _ hb _ e n => u.keep b o e n hb (by simp)) (fun b o _ hb _ e n => u.slot b o e n hb (by simp)) (fun b o _ e n => u.free b o e n (by simp)) (fun b o _ e => u.there b o e (by simp)) u.tups u.frzs u.tbls (fun m' hm => by
  obtain ⟨o', es', ep', ho', r'⟩ := hm
  rw [ho] at ho'; cases ho'
  exact ⟨_, es', ep', hL, r'⟩) hok I.bare
theorem Inv.call {g' : Array GenState} {t' : Nat} {d' : Drawn} {ch : List Addr} (I : Inv X pins σ H s) (u : Un (frs X.stack) ch H H' s.heap h') (hok : HOk X.prog X.w H' h') (hg : AllBare g')
  (hch : ∀ b ∈ ch, (b ∈ X.ex ∨ X.s₀.heap.objs.size ≤ b) ∧ b ≠ X.env.locals ∧ (∀ x c, X.env.cells.lookup x = some c → c ≠ b) ∧ ∀ p ∈ X.pn ++ pins, p.1 ≠ b) :
  Inv X pins σ H' { s with heap := h', gens := g', drawn := d', toks := t' } := by
 obtain ⟨m, ⟨o, es, ep, ho, r⟩, _⟩ := id I.loc
 obtain ⟨sl, hL⟩ := u.any ho I.free fun z => (hch _ z).2.1 rfl
 exact I.step (ch := ch) hch (fun b o hL hb hc e n => u.keep b o e n (fun z => (List.mem_cons.mp (I.stkSub b z)).elim hL hb) hc) (fun b o _ _ hc e n => u.any e n hc) (fun b o hc e n => u.free b o e n hc) (fun b o hc e => u.there b o e hc) u.tups u.frzs u.tbls (fun m' hm => by
  obtain ⟨o', es', ep', ho', r'⟩ := hm
  rw [ho] at ho'; cases ho'
  exact ⟨_, es', ep', hL, r'⟩) hok hg
theorem Inv.turned {t' : Nat} {it : Addr} (I : Inv X pins σ H s) (k : ∀ b o, b ≠ it → s.heap.get? b = some o → h'.get? b = some o) (hn : H it = none) (hL : it ≠ X.env.locals)
  (h1 : it ∈ X.ex ∨ X.s₀.heap.objs.size ≤ it) (h2 : ∀ x c, X.env.cells.lookup x = some c → c ≠ it) (h3 : ∀ p ∈ X.pn ++ pins, p.1 ≠ it) : Inv X pins σ H { s with heap := h', toks := t' } := by
 have nit : ∀ b u, H b = some u → b ≠ it := fun b u e z => by rw [z, hn] at e; cases e
 refine I.step (g' := s.gens) (d' := s.drawn) (ch := [it]) (fun b hb => ?_) (fun b o _ _ hc e _ => k b o (fun z => hc (by simp [z])) e) (fun b o _ _ hc e _ => ⟨o.slots, k b o (fun z => hc (by simp [z])) e⟩) (fun _ _ _ _ n => n)
  (fun b o hc e => ⟨o, k b o (fun z => hc (by simp [z])) e⟩) (fun _ _ e => e) (fun _ _ _ e => e) (fun b ps e => ⟨#[], by rw [e]; simp⟩) (fun m hm => ?_) (fun b u e => ?_) I.bare
 ·have e : b = it := by simpa using hb
  subst e
  exact ⟨h1, hL, h2, h3⟩
 ·obtain ⟨o, es, ep, ho, r⟩ := hm
  exact ⟨o, es, ep, k _ o (Ne.symm hL) ho, r⟩
 ·refine (I.hok b u e).stay (fun c v hc q => k c v ?_ q) (fun _ q => q) fun _ _ q => q
  rcases hc with z | z
  ·rw [z]; exact nit b u e
  ·exact nit c _ z
theorem Inv.tok (I : Inv X pins σ H s) (t : Nat) : Inv X pins σ H { s with toks := t } := I.un (h' := s.heap) (t' := t) Un.refl I.hok
theorem Inv.kept {t' : Nat} (I : Inv X pins σ H s) (k : ∀ b u, s.heap.get? b = some u → h'.get? b = some u) : Inv X pins σ H { s with heap := h', toks := t' } := I.un (Un.kept k) (I.hok.kept k)
theorem Inv.laid {a : Addr} {o : HO} {t' : Nat} (I : Inv X pins σ H s) (k : ∀ b u, s.heap.get? b = some u → h'.get? b = some u) (hp : s.heap.objs.size ≤ a) (new : ObjOk X.prog X.w (upd H a o) h' a o) :
  Inv X pins σ (upd H a o) { s with heap := h', toks := t' } := I.un (Un.laid k hp (I.hok.fresh hp)) (I.hok.laid k hp new)
theorem Inv.write {x e : Addr} {o : HO} {t' : Nat} (I : Inv X pins σ H s) (mu : Mut (H x)) (he : e = x ∨ H e = some (.own x)) (k : ∀ b u, b ≠ e → s.heap.get? b = some u → h'.get? b = some u) (heo : ∃ u, h'.get? e = some u)
  (new : ObjOk X.prog X.w (upd H x o) h' x o) : Inv X pins σ (upd H x o) { s with heap := h', toks := t' } := I.un (Un.write mu he k heo) (I.hok.write mu he k heo new)
theorem Inv.pins_of {pins' : List (Addr × Obj)} (I : Inv X pins σ H s) (h : ∀ p ∈ pins', s.heap.get? p.1 = some p.2 ∧ H p.1 = none ∧ p.1 ≠ X.env.locals ∧ p.1 ∉ X.fs ∧ ∀ v, p.2.data ≠ .cell v) : Inv X pins' σ H s :=
 ⟨I.ok, I.os, I.bare, I.base, I.loc, I.cell, I.free, I.freeC, fun p hp => (List.mem_append.mp hp).elim (fun z => I.pin p (List.mem_append_left _ z)) (h p), I.hok, I.len⟩
theorem zafb {N : List Str} (hN : N.Nodup) {i j : Nat} {x : Str} (a : N[i]? = some x) (b : N[j]? = some x) : i = j := by
 obtain ⟨h1, e1⟩ := List.getElem?_eq_some_iff.mp a
 obtain ⟨h2, e2⟩ := List.getElem?_eq_some_iff.mp b
 exact (List.getElem_inj hN).mp (e1.trans e2.symm)
theorem zaeg {M : Model} {A : Around} {E : Value → Shared → Prop} {i : Nat} {x : Str} {v : V} {u : Value} {Q : Unit → Shared → Prop} (I : Inv X pins σ H s) (hN : X.N.Nodup) (hi : X.N[i]? = some x) (hx : Loc X.env.scope x) (r : RelV v u)
  (h : ∀ s', Inv X pins (σ.set i (some v)) H s' → (∃ a, Heap.SameBut a s.heap s'.heap ∧ (a = X.env.locals ∨ X.env.cells.lookup x = some a)) → Q () s') (hf : X.fn x = true ∨ X.env.scope.names.lookup x = some .local := by first | exact .inl rfl | exact .inr rfl | assumption) : wpAny M A (storeName X.env x u) Q E s := by
 obtain ⟨m, hn, hl⟩ := id I.loc
 have hcls : (X.env.scope.kind == .class || (X.env.scope.kind == .module && X.env.locals != X.env.globals)) = false := by rw [I.ok.kind]; rfl
 have hiσ : i < σ.length := by rw [I.len]; exact (List.getElem?_eq_some_iff.mp hi).1
 have cne := I.cne
 have tracked : ∀ {a : Addr} {h' : Heap}, (∃ o, s.heap.get? a = some o ∧ H a = none) → Heap.SameBut a s.heap h' → HOk X.prog X.w H h' := fun {a h'} ha hs b ob e => by
  obtain ⟨_, _, hfree⟩ := ha
  refine (I.hok b ob e).stay (fun c w' hc q => (hs.2 c ?_).trans q) (fun _ q => q) fun _ _ q => q
  rintro rfl
  rcases hc with rfl | hc
  ·rw [hfree] at e; cases e
  ·rw [hfree] at hc; cases hc
 rcases hx with hk | hk
 ·refine wpAny_storeName_local hk hn (fun h' hn' hs => ?_) hcls
  obtain ⟨oL, _, _, hoL, _⟩ := id hn
  refine h _ ⟨I.ok, I.os, I.bare, ⟨fun b o e n hb hx => ?_, fun b o e n hb hx => ?_, I.base.free, fun b o e hx => ?_, I.base.tups, I.base.frzs, I.base.tbls⟩, ⟨_, hn', fun j y v' e1 e2 e3 => ?_⟩, fun y c e => ?_, I.free, I.freeC, fun p hp => ?_, tracked ⟨oL, hoL, I.free⟩ hs, by simpa using I.len⟩ ⟨_, hs, .inl rfl⟩
  ·exact (hs.2 b (Nat.ne_of_lt (Nat.lt_of_lt_of_le (Heap.lt_size e) I.ok.above))).trans (I.base.keep b o e n hb hx)
  ·obtain ⟨sl, e1⟩ := I.base.slot b o e n hb hx
   exact ⟨sl, (hs.2 b (Nat.ne_of_lt (Nat.lt_of_lt_of_le (Heap.lt_size e) I.ok.above))).trans e1⟩
  ·obtain ⟨o', e1⟩ := I.base.there b o e hx
   exact ⟨o', (hs.2 b (Nat.ne_of_lt (Nat.lt_of_lt_of_le (Heap.lt_size e) I.ok.above))).trans e1⟩
  ·by_cases hj : j = i
   ·subst hj
    rw [hi] at e1; cases e1
    rw [List.getElem?_set_self hiσ] at e2
    cases e2
    exact ⟨u, r, .inl ⟨hk, by simp⟩⟩
   ·rw [List.getElem?_set_ne (Ne.symm hj)] at e2
    obtain ⟨u', r', q⟩ := hl j y v' e1 e2 e3
    refine ⟨u', r', ?_⟩
    rcases q with ⟨k, e⟩ | ⟨k, c, e, z⟩
    ·refine .inl ⟨k, ?_⟩
     have : y ≠ x := fun e => hj (zafb hN e1 (e ▸ hi))
     simp [this, e]
    ·exact .inr ⟨k, c, e, z.sameBut hs (cne y c e)⟩
  ·obtain ⟨w', z⟩ := I.cell y c e
   exact ⟨w', z.sameBut hs (cne y c e)⟩
  ·obtain ⟨e, n, ne, nf, d⟩ := I.pin p hp
   exact ⟨(hs.2 p.1 ne).trans e, n, ne, nf, d⟩
 ·have hfn : X.fn x = true := by
   rcases hf with z | z
   ·exact z
   ·rw [z] at hk; cases hk
  obtain ⟨c, hc⟩ := I.ok.has x (.inl hk)
  obtain ⟨w', z⟩ := I.cell x c hc
  refine wpAny_storeName_cell I.ok.kind hk hc z (fun h' hc' hs => ?_)
  obtain ⟨oc, hoc, hocd⟩ := id z
  refine h { s with heap := h' } ⟨I.ok, I.os, I.bare, ⟨fun b o e n hb hx => ?_, fun b o e n hb hx => ?_, I.base.free, fun b o e hx => ?_, I.base.tups, I.base.frzs, I.base.tbls⟩, ⟨m, hn.sameBut hs (Ne.symm (cne x c hc)), fun j y v' e1 e2 e3 => ?_⟩, fun y c' e => ?_, I.free, I.freeC, fun p hp => ?_, tracked ⟨oc, hoc, I.freeC x c hc⟩ hs, by simpa using I.len⟩ ⟨c, hs, .inr hc⟩
  ·exact (hs.2 b (Nat.ne_of_lt (Nat.lt_of_lt_of_le (Heap.lt_size e) (I.ok.cab x c hfn hc)))).trans (I.base.keep b o e n hb hx)
  ·obtain ⟨sl, e1⟩ := I.base.slot b o e n hb hx
   exact ⟨sl, (hs.2 b (Nat.ne_of_lt (Nat.lt_of_lt_of_le (Heap.lt_size e) (I.ok.cab x c hfn hc)))).trans e1⟩
  ·obtain ⟨o', e1⟩ := I.base.there b o e hx
   exact ⟨o', (hs.2 b (Nat.ne_of_lt (Nat.lt_of_lt_of_le (Heap.lt_size e) (I.ok.cab x c hfn hc)))).trans e1⟩
  ·by_cases hj : j = i
   ·subst hj
    rw [hi] at e1; cases e1
    rw [List.getElem?_set_self hiσ] at e2
    cases e2
    exact ⟨u, r, .inr ⟨.inl hk, c, hc, hc'⟩⟩
   ·rw [List.getElem?_set_ne (Ne.symm hj)] at e2
    obtain ⟨u', r', q⟩ := hl j y v' e1 e2 e3
    refine ⟨u', r', ?_⟩
    rcases q with q | ⟨k, c', e, z'⟩
    ·exact .inl q
    ·refine .inr ⟨k, c', e, z'.sameBut hs ?_⟩
     rintro rfl
     exact hj (zafb hN e1 (I.ok.inj _ _ _ e hc ▸ hi))
  ·by_cases hcc : c' = c
   ·subst hcc; exact ⟨_, hc'⟩
   ·obtain ⟨w2, z2⟩ := I.cell y c' e
    exact ⟨w2, z2.sameBut hs hcc⟩
  ·obtain ⟨e, n, ne, nf, d⟩ := I.pin p hp
   refine ⟨(hs.2 p.1 ?_).trans e, n, ne, nf, d⟩
   intro q
   rw [q, hoc] at e
   have q' : oc = p.2 := Option.some.inj e
   exact d w' (by rw [← q']; exact hocd)
theorem zafc {M : Model} {A : Around} {E : Value → Shared → Prop} {i : Nat} {x : Str} {v : V} {u : Value} {Q : Unit → Shared → Prop} (I : Inv X pins σ H s) (hN : X.N.Nodup) (hi : X.N[i]? = some x) (hx : Loc X.env.scope x) (r : RelV v u)
  (h : ∀ s', Inv X pins (σ.set i (some v)) H s' → Q () s') (hf : X.fn x = true ∨ X.env.scope.names.lookup x = some .local := by first | exact .inl rfl | exact .inr rfl | assumption) : wpAny M A (storeName X.env x u) Q E s :=
 zaeg I hN hi hx r (fun s' I' _ => h s' I') hf
theorem Inv.call' {s' : Shared} {ch : List Addr} (I : Inv X pins σ H s) (ho : s'.os = s.os) (u : Un (frs X.stack) ch H H' s.heap s'.heap) (hok : HOk X.prog X.w H' s'.heap) (hg : AllBare s'.gens)
  (hch : ∀ b ∈ ch, (b ∈ X.ex ∨ X.s₀.heap.objs.size ≤ b) ∧ b ≠ X.env.locals ∧ (∀ x c, X.env.cells.lookup x = some c → c ≠ b) ∧ ∀ p ∈ X.pn ++ pins, p.1 ≠ b) : Inv X pins σ H' s' := by
 obtain ⟨h', g', d', t', o'⟩ := s'
 have e : o' = s.os := ho
 subst e
 exact I.call (g' := g') (t' := t') (d' := d') u hok hg hch
end
abbrev XK := Value → Option Addr → Hp → Prop
abbrev St := List (Option V)
abbrev VK := V → Hp → Prop
abbrev TE := St → Hp → VK → Prop
abbrev TT := St → Hp → (Bool → Hp → Prop) → Prop
abbrev TA := St → Hp → (List V → Hp → Prop) → Prop
structure Ends where
 nx : St → Hp → Prop
 rt : VK
 bk : St → Hp → Prop := fun _ _ => False
 ct : St → Hp → Prop := fun _ _ => False
abbrev TS := Ends → St → Hp → Prop
def EP (X : Cx) (pins : List (Addr × Obj)) (σ : St) (Q : VK) (u : Value) (s' : Shared) : Prop := ∃ v H', Inv X pins σ H' s' ∧ RelV v u ∧ Q v H'
def TP (X : Cx) (pins : List (Addr × Obj)) (σ : St) (Q : Bool → Hp → Prop) (b : Bool) (s' : Shared) : Prop := ∃ H', Inv X pins σ H' s' ∧ Q b H'
def AP (X : Cx) (pins : List (Addr × Obj)) (σ : St) (Q : List V → Hp → Prop) (us : List Value) (s' : Shared) : Prop := ∃ vs H', Inv X pins σ H' s' ∧ Vals vs us ∧ Q vs H'
def SP (X : Cx) (pins : List (Addr × Obj)) (D : Ends) (f : Flow) (s' : Shared) : Prop :=
 match f with
 | .next => ∃ σ' H', Inv X pins σ' H' s' ∧ D.nx σ' H'
 | .brk => ∃ σ' H', Inv X pins σ' H' s' ∧ D.bk σ' H'
 | .cont => ∃ σ' H', Inv X pins σ' H' s' ∧ D.ct σ' H'
 | .ret u => ∃ v σ' H', Inv X pins σ' H' s' ∧ RelV v u ∧ D.rt v H'
def PE (X : Cx) (e : Expr) (t : TE) : Prop :=
 ∀ (pins : List (Addr × Obj)) (s : Shared) (σ : St) (H : Hp) (Q : VK), Inv X pins σ H s → t σ H Q → wpAny (model X.prog X.w) X.A (eval e X.env) (EP X pins σ Q) X.xe s
def PT (X : Cx) (e : Expr) (t : TT) : Prop :=
 ∀ (pins : List (Addr × Obj)) (s : Shared) (σ : St) (H : Hp) (Q : Bool → Hp → Prop), Inv X pins σ H s → t σ H Q → wpAny (model X.prog X.w) X.A (isTrue e X.env (eval e X.env)) (TP X pins σ Q) X.xe s
def PW (X : Cx) (e : Expr) (t : TT) : Prop :=
 ∀ (whole : Sem Value) (pins : List (Addr × Obj)) (s : Shared) (σ : St) (H : Hp) (Q : Bool → Hp → Prop), Inv X pins σ H s → t σ H Q → wpAny (model X.prog X.w) X.A (isTrue e X.env whole) (TP X pins σ Q) X.xe s
theorem PW.pt {X : Cx} {e : Expr} {t : TT} (h : PW X e t) : PT X e t := h _
def PA (X : Cx) (es : List Expr) (t : TA) : Prop :=
 ∀ (pos : Pos) (pins : List (Addr × Obj)) (s : Shared) (σ : St) (H : Hp) (Q : List V → Hp → Prop), Inv X pins σ H s → t σ H Q → wpAny (model X.prog X.w) X.A (spliced (backTo pos (starEach es X.env))) (AP X pins σ Q) X.xe s
def PS (X : Cx) (st : Stmt) (t : TS) : Prop :=
 ∀ (pins : List (Addr × Obj)) (s : Shared) (σ : St) (H : Hp) (D : Ends), Inv X pins σ H s → t D σ H → wpAny (model X.prog X.w) X.A (exec st X.env) (SP X pins D) X.xe s
def PSs (X : Cx) (st : List Stmt) (t : TS) : Prop :=
 ∀ (pins : List (Addr × Obj)) (s : Shared) (σ : St) (H : Hp) (D : Ends), Inv X pins σ H s → t D σ H → wpAny (model X.prog X.w) X.A (execs st X.env) (SP X pins D) X.xe s
theorem thn {α : Type} {t : Sem α} {Q Q' : α → Shared → Prop} {M : Model} {A : Around} {E : Value → Shared → Prop} {s : Shared} (h : wpAny M A t Q E s) (hQ : ∀ a s, Q a s → Q' a s) : wpAny M A t Q' E s := wpAny_mono h hQ fun _ _ x => x
section
variable {X : Cx}
def tVar (i : Nat) : TE := fun σ H Q => ∃ v, σ[i]? = some (some v) ∧ Q v H
def tC (v : V) : TE := fun _ H Q => Q v H
theorem zan4 {i : Nat} {x : Str} {pos : Pos} (hN : X.N[i]? = some x) (hv : Vis X.env.scope x) (hd : (x == ("__debug__" : Str)) = false := by decide) (hcd : (x == ("__classdict__" : Str)) = false := by decide) : PE X (.Name x pos) (tVar i) := by
 intro pins s σ H Q I h
 obtain ⟨v, e, h⟩ := h
 obtain ⟨m, hn, hl⟩ := I.loc
 obtain ⟨u, r, l⟩ := hl i x v hN e hv
 have fin : EP X pins σ Q u s := ⟨v, H, I, r, h⟩
 rcases l with ⟨hk, hm⟩ | ⟨hk, c, hc, hcell⟩
 ·exact wpAny_Name (wpAny_loadName_local I.ok.kind hk hn hm fin) hd
 ·rcases hk with hk | hk
  ·exact wpAny_Name (wpAny_loadName_cell I.ok.kind hk hc hcell fin) hd
  ·exact wpAny_Name (wpAny_loadName_free I.ok.kind hk hc hcell fin hcd) hd
theorem zan5 {i j pos} : PE X (.Constant (.int i) j pos) (tC (.int i)) := fun _ _ _ H _ I h => wpAny_Constant_int ⟨.int i, H, I.tok _, ⟨_, rfl⟩, h⟩
theorem zapq {b j pos} : PE X (.Constant (.bool b) j pos) (tC (.bl b)) := fun _ _ _ H _ I h => Constant_bool ⟨.bl b, H, I, rfl, h⟩
theorem zan6 {j pos} : PE X (.Constant .none j pos) (tC .non) := fun _ _ _ H _ I h => Constant_none ⟨.non, H, I, rfl, h⟩
theorem zan7 {x j pos} : PE X (.Constant (.str x) j pos) (tC (.str x)) := fun _ _ _ H _ I h => Calls.Constant_str ⟨.str x, H, I.tok _, ⟨_, rfl⟩, h⟩
def Gl (X : Cx) (x : Str) : Prop := X.env.kindOf x = some .globalImplicit
theorem zadd {E : Value → Shared → Prop} {pins : List (Addr × Obj)} {s : Shared} {σ : St} {H : Hp} {x : Str} {u : Value} {pos : Pos} {Q : Value → Shared → Prop} (I : Inv X pins σ H s) (hg : Gl X x) (hm : X.mg x = some u) (h : Q u s)
  (hd : (x == ("__debug__" : Str)) = false := by decide) : wpAny (model X.prog X.w) X.A (eval (.Name x pos) X.env) Q E s :=
 Calls.Name_function_global I.ok.kind hg (Calls.loadGlobal_global (by rw [I.ok.glob]; exact I.mod.glob.keeps I.bk) hm h) hd
theorem zaea {E : Value → Shared → Prop} {pins : List (Addr × Obj)} {s : Shared} {σ : St} {H : Hp} {x : Str} {u : Value} {pos : Pos} {Q : Value → Shared → Prop} (I : Inv X pins σ H s) (hg : Gl X x) (hm : X.mg x = none) (hv : bootBuiltins x = some u) (h : Q u s)
  (hn : x ≠ "__name__" := by decide) (hd : (x == ("__debug__" : Str)) = false := by decide) : wpAny (model X.prog X.w) X.A (eval (.Name x pos) X.env) Q E s := by
 obtain ⟨mb, h1, h2⟩ := I.mod.blt
 exact Calls.Name_function_global I.ok.kind hg (Calls.loadGlobal_builtin (by rw [I.ok.glob]; exact I.mod.glob.keeps I.bk) hm (by rw [I.ok.blt]; exact h1.keeps I.bk) ((h2 x hn).trans hv) h) hd
theorem zaix {x : Str} {v : V} {u : Value} {pos : Pos} (hg : Gl X x) (hm : X.mg x = some u) (r : RelV v u) (hd : (x == ("__debug__" : Str)) = false := by decide) : PE X (.Name x pos) (tC v) :=
 fun _ _ _ H _ I h => zadd I hg hm ⟨v, H, I, r, h⟩ hd
theorem zamd {x : Str} {v : V} {u : Value} {pos : Pos} (hg : Gl X x) (hm : X.mg x = none) (hv : bootBuiltins x = some u) (r : RelV v u) (hn : x ≠ "__name__" := by decide) (hd : (x == ("__debug__" : Str)) = false := by decide) : PE X (.Name x pos) (tC v) :=
 fun _ _ _ H _ I h => zaea I hg hm hv ⟨v, H, I, r, h⟩ hn hd
def t2I (ta tb : TE) (k : Int → Int → Hp → Prop) : St → Hp → Prop := fun σ H => ta σ H fun x H1 => tb σ H1 fun y H2 => ∃ i j, x = .int i ∧ y = .int j ∧ k i j H2
def tAdd (ta tb : TE) : TE := fun σ H Q => t2I ta tb (fun i j H2 => Q (.int (i + j)) H2) σ H
def tSub (ta tb : TE) : TE := fun σ H Q => t2I ta tb (fun i j H2 => Q (.int (i - j)) H2) σ H
def tMul (ta tb : TE) : TE := fun σ H Q => t2I ta tb (fun i j H2 => (-(2 ^ 64) < i ∧ i < 2 ^ 64) ∧ Q (.int (i * j)) H2) σ H
variable {a b : Expr} {ta tb : TE} {pos : Pos}
def PC (X : Cx) (op : CmpOp) (a b : Expr) (t : TE) : Prop :=
 ∀ (pins : List (Addr × Obj)) (s : Shared) (σ : St) (H : Hp) (Q : VK), Inv X pins σ H s → t σ H Q →
  wpAny (model X.prog X.w) X.A (eval a X.env) (fun v s₁ => wpAny (model X.prog X.w) X.A (eval b X.env) (fun u s₂ => wpAny (model X.prog X.w) X.A (compareOp op v u) (EP X pins σ Q) X.xe s₂) X.xe s₁) X.xe s
def tCmp (p : Int → Int → Bool) (ta tb : TE) : TE := fun σ H Q => t2I ta tb (fun i j H2 => Q (.bl (p i j)) H2) σ H
abbrev tLt : TE → TE → TE := tCmp fun i j => decide (i < j)
abbrev tLe : TE → TE → TE := tCmp fun i j => decide (i ≤ j)
abbrev tGt : TE → TE → TE := tCmp fun i j => decide (j < i)
abbrev tGe : TE → TE → TE := tCmp fun i j => decide (j ≤ i)
abbrev tEqI : TE → TE → TE := tCmp fun i j => decide (i = j)
abbrev tNeI : TE → TE → TE := tCmp fun i j => !decide (i = j)
def tIsN (ta : TE) : TE := fun σ H Q => ta σ H fun x H1 => Q (.bl (decide (x = .non))) H1
def tNotN (ta : TE) : TE := fun σ H Q => ta σ H fun x H1 => Q (.bl (!decide (x = .non))) H1
def tB (t : TE) : TT := fun σ H Q => t σ H fun x H1 => ∃ c, x = .bl c ∧ Q c H1
theorem zan8 {e : Expr} {t : TE} (h : PE X e t) (he : ∀ whole, isTrue e X.env whole = (do let v ← whole; standAt e.pos; holding [v] (truthy v)) := by intro _; rfl) : PT X e (tB t) := by
 intro pins s σ H Q I hw
 refine isTrue_plain (thn (h pins s σ H _ I hw) fun v s1 ⟨x, H1, I1, r1, q1⟩ => ?_) (he _)
 obtain ⟨d, rfl, q⟩ := q1
 cases r1
 exact wpAny_truthy_bool ⟨H1, I1, q⟩
variable {tA tB' : TT} {rest : List Expr}
def tAnd (t u : TT) : TT := fun σ H Q => t σ H fun c H1 => if c = true then u σ H1 Q else Q false H1
def tOr (t u : TT) : TT := fun σ H Q => t σ H fun c H1 => if c = true then Q true H1 else u σ H1 Q
def tNot (t : TT) : TT := fun σ H Q => t σ H fun c H1 => Q (!c) H1
theorem zame (ha : PT X a tA) : PW X (.BoolOp .And [a] pos) tA := by
 intro wh pins s σ H Q I h
 refine isTrue_and (thn (ha pins s σ H Q I h) fun c s1 e => ?_)
 cases c with
 | true => exact isTrue_and_nil e
 | false => exact e
theorem zan9 (ha : PT X a tA) : PW X (.BoolOp .Or [a] pos) tA := by
 intro wh pins s σ H Q I h
 refine isTrue_or (thn (ha pins s σ H Q I h) fun c s1 e => ?_)
 cases c with
 | false => exact isTrue_or_nil e
 | true => exact e
theorem zaoa (ha : PT X a tA) (hb : PW X (.BoolOp .And (b :: rest) pos) tB') : PW X (.BoolOp .And (a :: b :: rest) pos) (tAnd tA tB') := by
 intro wh pins s σ H Q I h
 refine isTrue_and (thn (ha pins s σ H _ I h) fun c s1 ⟨H1, I1, q1⟩ => ?_)
 cases c with
 | true => exact hb wh pins s1 σ H1 Q I1 q1
 | false => exact ⟨H1, I1, q1⟩
theorem zapr (ha : PT X a tA) (hb : PW X (.BoolOp .Or (b :: rest) pos) tB') : PW X (.BoolOp .Or (a :: b :: rest) pos) (tOr tA tB') := by
 intro wh pins s σ H Q I h
 refine isTrue_or (thn (ha pins s σ H _ I h) fun c s1 ⟨H1, I1, q1⟩ => ?_)
 cases c with
 | true => exact ⟨H1, I1, q1⟩
 | false => exact hb wh pins s1 σ H1 Q I1 q1
theorem zaob (ha : PT X a tA) : PT X (.UnaryOp .Not a pos) (tNot tA) := by
 intro pins s σ H Q I h
 exact isTrue_not (ha pins s σ H (fun c H1 => Q (!c) H1) I h)
def tAndV (ta tb : TE) : TE := fun σ H Q => ta σ H fun x H1 => ∃ c, x = .bl c ∧ if c = true then tb σ H1 Q else Q (.bl false) H1
def tOrV (ta tb : TE) : TE := fun σ H Q => ta σ H fun x H1 => ∃ c, x = .bl c ∧ if c = true then Q (.bl true) H1 else tb σ H1 Q
def tNotV (ta : TE) : TE := fun σ H Q => ta σ H fun x H1 => ∃ c, x = .bl c ∧ Q (.bl (!c)) H1
theorem zaoc {op} {t : TE} (h : PE X a t) : PE X (.BoolOp op [a] pos) t := fun pins s σ H Q I hw => BoolOp_one (h pins s σ H Q I hw)
theorem zaod (ha : PE X a ta) (hb : PE X (.BoolOp .And (b :: rest) pos) tb) : PE X (.BoolOp .And (a :: b :: rest) pos) (tAndV ta tb) := by
 intro pins s σ H Q I h
 refine BoolOp_and (thn (ha pins s σ H _ I h) fun v s1 ⟨x, H1, I1, r1, q1⟩ => ?_)
 obtain ⟨c, rfl, q1⟩ := q1
 cases r1
 refine wpAny_truthy_bool ?_
 cases c with
 | true => exact hb pins s1 σ H1 Q I1 q1
 | false => exact ⟨.bl false, H1, I1, rfl, q1⟩
theorem zaoe (ha : PE X a ta) : PE X (.UnaryOp .Not a pos) (tNotV ta) := by
 intro pins s σ H Q I h
 refine UnaryOp_ (thn (ha pins s σ H _ I h) fun v s1 ⟨x, H1, I1, r1, q1⟩ => ?_)
 obtain ⟨c, rfl, q1⟩ := q1
 cases r1
 exact not_of (wpAny_truthy_bool ⟨.bl (!c), H1, I1, rfl, q1⟩)
def tIf (t : TT) (ta tb : TE) : TE := fun σ H Q => t σ H fun c H1 => if c = true then ta σ H1 Q else tb σ H1 Q
theorem zakq {c : Expr} (hc : PT X c tA) (ha : PE X a ta) (hb : PE X b tb) : PE X (.IfExp c a b pos) (tIf tA ta tb) := by
 intro pins s σ H Q I h
 refine wpAny_IfExp (thn (hc pins s σ H _ I h) fun d s1 ⟨H1, I1, q1⟩ => ?_)
 cases d with
 | true => exact ha pins s1 σ H1 Q I1 q1
 | false => exact hb pins s1 σ H1 Q I1 q1
end
def SqL (K : PySem.W.Frag) (H : Hp) (a : Addr) (xs : List V) : Prop :=
 Rd H a (.lst xs) ∨
  ∃ (o : Obj) (its : Array Value) (n : Nat), K.lookup a = some o ∧ o.cls = .type "list" ∧ o.dict = none ∧ o.data = .seq its n ∧ its.size ≤ sizeLine ∧ Vals xs its.toList
def SqT (K : PySem.W.Frag) (H : Hp) (a : Addr) (xs : List V) : Prop :=
 Rd H a (.tup xs) ∨
  ∃ (o : Obj) (its : Array Value) (n : Nat), K.lookup a = some o ∧ o.cls = .type "tuple" ∧ o.data = .seq its n ∧ its.size ≤ sizeLine ∧ Vals xs its.toList
def absV : Value → Option V
 | .none => some .non
 | .bool b => some (.bl b)
 | .int i _ => some (.int i)
 | .str x _ => some (.str x)
 | .bytes b _ => some (.byt b)
 | .float b _ => some (.flt b)
 | .ref a => some (.ref a)
 | .type n => some (.ty n)
 | _ => none
theorem RelV.abs {x : V} {u : Value} (r : RelV x u) : absV u = some x := by
 cases x with
 | non => cases r; rfl
 | bl _ => cases r; rfl
 | int _ => obtain ⟨t, rfl⟩ := r; rfl
 | str _ => obtain ⟨t, rfl⟩ := r; rfl
 | byt _ => obtain ⟨t, rfl⟩ := r; rfl
 | flt _ => obtain ⟨t, rfl⟩ := r; rfl
 | ref _ => cases r; rfl
 | ty _ => cases r; rfl
theorem RelV.inj {x y : V} {u : Value} (r : RelV x u) (q : RelV y u) : x = y := Option.some.inj (r.abs.symm.trans q.abs)
theorem Vals.inj : ∀ {xs ys : List V} {us : List Value}, Vals xs us → Vals ys us → xs = ys
 | _, _, _, .nil, .nil => rfl
 | _, _, _, .cons r t, .cons r' t' => by rw [r.inj r', Vals.inj t t']
section
variable {X : Cx} {pins : List (Addr × Obj)} {σ : St} {H : Hp} {s : Shared} {a : Addr} {xs ys : List V}
theorem SqL.of {K : PySem.W.Frag} (h : H a = some (.lst xs)) : SqL K H a xs := .inl (.inl h)
theorem SqT.of {K : PySem.W.Frag} (h : H a = some (.tup xs)) : SqT K H a xs := .inl (.inl h)
theorem Inv.list (I : Inv X pins σ H s) (h : SqL X.K H a xs) : ∃ its : List Value, Vals xs its ∧ PlainL s.heap a its.toArray ∧ xs.length ≤ sizeLine := by
 rcases h with h | ⟨o, its, n, hk, hc, hd, hs, hz, r⟩
 ·obtain ⟨z, its, n, r, e⟩ := h.ok I.hok
  exact ⟨its, r, ⟨_, n, e, rfl, rfl, rfl⟩, z⟩
 ·refine ⟨its.toList, r, ⟨o, n, I.kIn a o hk, hc, hd, by simpa using hs⟩, ?_⟩
  have e := r.length
  simp only [Array.length_toList] at e
  omega
theorem Inv.tuple (I : Inv X pins σ H s) (h : SqT X.K H a xs) : ∃ its : List Value, Vals xs its ∧ IsTup s.heap a its.toArray ∧ xs.length ≤ sizeLine := by
 rcases h with h | ⟨o, its, n, hk, hc, hs, hz, r⟩
 ·obtain ⟨z, its, r, p⟩ := h.ok I.hok
  exact ⟨its, r, p, z⟩
 ·refine ⟨its.toList, r, ⟨o, I.kIn a o hk, hc, n, by simpa using hs⟩, ?_⟩
  have e := r.length
  simp only [Array.length_toList] at e
  omega
theorem Inv.list_inj (I : Inv X pins σ H s) (h : SqL X.K H a xs) (h' : SqL X.K H a ys) : xs = ys := by
 obtain ⟨its, r, ⟨o, n, e, _, _, d⟩, _⟩ := I.list h
 obtain ⟨its', r', ⟨o', n', e', _, _, d'⟩, _⟩ := I.list h'
 rw [e] at e'; cases e'
 rw [d] at d'
 injection d' with d1 _
 have : its = its' := by simpa using congrArg Array.toList d1
 subst this
 exact r.inj r'
theorem Inv.tuple_inj (I : Inv X pins σ H s) (h : SqT X.K H a xs) (h' : SqT X.K H a ys) : xs = ys := by
 obtain ⟨its, r, ⟨o, e, _, n, d⟩, _⟩ := I.tuple h
 obtain ⟨its', r', ⟨o', e', _, n', d'⟩, _⟩ := I.tuple h'
 rw [e] at e'; cases e'
 rw [d] at d'
 injection d' with d1 _
 have : its = its' := by simpa using congrArg Array.toList d1
 subst this
 exact r.inj r'
end
abbrev Cx.wish (X : Cx) (E : Value → Shared → Prop) : Cx := { X with xe := E }
abbrev Cx.nox (X : Cx) : Cx := X.wish fun _ _ => False
theorem Cx.Ok.wish {X : Cx} (ok : X.Ok) (E : Value → Shared → Prop) : (X.wish E).Ok :=
 ⟨ok.mod, ok.kind, ok.glob, ok.blt, ok.above, ok.inj, ok.has, ok.cab, ok.hd, ok.frames, ok.stk, ok.exf, ok.bs, ok.bsz, ok.noex, ok.exfs, ok.funs, ok.frf⟩
theorem Cx.Ok.unwish {X : Cx} {E : Value → Shared → Prop} (ok : (X.wish E).Ok) : X.Ok :=
 ⟨ok.mod, ok.kind, ok.glob, ok.blt, ok.above, ok.inj, ok.has, ok.cab, ok.hd, ok.frames, ok.stk, ok.exf, ok.bs, ok.bsz, ok.noex, ok.exfs, ok.funs, ok.frf⟩
section
variable {X : Cx} {pins : List (Addr × Obj)} {σ : St} {H : Hp} {s : Shared} {E : Value → Shared → Prop}
theorem Inv.wish (I : Inv X pins σ H s) (E : Value → Shared → Prop) : Inv (X.wish E) pins σ H s := ⟨I.ok.wish E, I.os, I.bare, I.base, I.loc, I.cell, I.free, I.freeC, I.pin, I.hok, I.len⟩
theorem Inv.unwish (I : Inv (X.wish E) pins σ H s) : Inv X pins σ H s := ⟨I.ok.unwish, I.os, I.bare, I.base, I.loc, I.cell, I.free, I.freeC, I.pin, I.hok, I.len⟩
theorem SP.unwish {D : Ends} {f : Flow} {s' : Shared} (h : SP (X.wish E) pins D f s') : SP X pins D f s' := by
 cases f with
 | next => obtain ⟨σ', H', I, q⟩ := h; exact ⟨σ', H', I.unwish, q⟩
 | brk => obtain ⟨σ', H', I, q⟩ := h; exact ⟨σ', H', I.unwish, q⟩
 | cont => obtain ⟨σ', H', I, q⟩ := h; exact ⟨σ', H', I.unwish, q⟩
 | ret u => obtain ⟨v, σ', H', I, r, q⟩ := h; exact ⟨v, σ', H', I.unwish, r, q⟩
theorem PSs.nox {st : List Stmt} {t : TS} (h : PSs X.nox st t) : PSs X st t := fun pins s σ H D I hw =>
 wpAny_mono (h pins s σ H D (I.wish _) hw) (fun _ _ q => q.unwish) fun _ _ z => False.elim z
end
section
variable {X : Cx} {st : Stmt} {rest : List Stmt} {t u : TS} {e : Expr} {te : TE} {pos : Pos}
def tNext : TS := fun D σ H => D.nx σ H
def tSeq (t u : TS) : TS := fun D σ H => t { D with nx := u D } σ H
theorem zamf : PSs X [] tNext := fun _ _ σ H _ I h => wpAny_execs_nil ⟨σ, H, I, h⟩
theorem zahq (h1 : PS X st t) (h2 : PSs X rest u) : PSs X (st :: rest) (tSeq t u) := by
 intro pins s σ H D I h
 refine wpAny_execs_cons (thn (h1 pins s σ H { D with nx := u D } I h) fun f s1 q => ?_)
 cases f with
 | next =>
  obtain ⟨σ', H', I', q⟩ := q
  exact h2 pins s1 σ' H' D I' q
 | ret v => exact q
 | brk => exact q
 | cont => exact q
theorem zamg (h1 : PS X st t) : PSs X [st] t := by
 intro pins s σ H D I h
 refine wpAny_execs_cons (thn (h1 pins s σ H D I h) fun f s1 q => ?_)
 cases f with
 | next => exact wpAny_execs_nil q
 | ret v => exact q
 | brk => exact q
 | cont => exact q
def tBreak : TS := fun D σ H => D.bk σ H
def tCont : TS := fun D σ H => D.ct σ H
theorem Inv.quiet {pins : List (Addr × Obj)} {σ : St} {H : Hp} {s : Shared} (I : Inv X pins σ H s) : interactive X.env = false := by simp [interactive, I.ok.kind]
def tDrop (te : TE) : TS := fun D σ H => te σ H fun _ H1 => D.nx σ H1
theorem zamh (he : PE X e te) (hs : swapsWith e none pos.line X.env = pure false := by rfl) : PS X (.Expr e pos) (tDrop te) := by
 intro pins s σ H D I h
 exact wpAny_Expr_any (thn (he pins s σ H _ I h) fun v s1 ⟨x, H1, I1, r1, q1⟩ => ⟨σ, H1, I1, q1⟩) I.quiet hs
def tRet (te : TE) : TS := fun D σ H => te σ H D.rt
theorem zaof (he : PE X e te) : PS X (.Return (some e) pos) (tRet te) := by
 intro pins s σ H D I h
 exact wpAny_Return_some (thn (he pins s σ H _ I h) fun v s1 ⟨x, H1, I1, r1, q1⟩ => ⟨x, σ, H1, I1, r1, q1⟩)
def tRetN : TS := fun D _ H => D.rt .non H
def tIfS (c : TT) (t u : TS) : TS := fun D σ H => c σ H fun b H1 => if b = true then t D σ H1 else u D σ H1
theorem zaps {c : Expr} {a b : List Stmt} {tc : TT} (hc : PT X c tc) (ha : PSs X a t) (hb : PSs X b u) : PS X (.If c a b pos) (tIfS tc t u) := by
 intro pins s σ H D I h
 refine wpAny_If (thn (hc pins s σ H _ I h) fun d s1 ⟨H1, I1, q1⟩ => ?_)
 cases d with
 | true => exact ha pins s1 σ H1 D I1 q1
 | false => exact hb pins s1 σ H1 D I1 q1
def tNever : TS := fun _ _ _ => False
end
abbrev TG := V → St → Hp → (St → Hp → Prop) → Prop
abbrev TGs := List V → St → Hp → (St → Hp → Prop) → Prop
def PG (X : Cx) (target : Expr) (t : TG) : Prop :=
 ∀ (pins : List (Addr × Obj)) (s : Shared) (σ : St) (H : Hp) (v : V) (u : Value) (Q : St → Hp → Prop), Inv X pins σ H s → RelV v u → t v σ H Q →
  wpAny (model X.prog X.w) X.A (assign target X.env u) (fun _ s' => ∃ σ' H', Inv X pins σ' H' s' ∧ Q σ' H') X.xe s
def PGs (X : Cx) (ts : List Expr) (t : TGs) : Prop :=
 ∀ (pins : List (Addr × Obj)) (s : Shared) (σ : St) (H : Hp) (vs : List V) (us : List Value) (Q : St → Hp → Prop), Inv X pins σ H s → Vals vs us → t vs σ H Q →
  wpAny (model X.prog X.w) X.A (assignInOrder ((assignEach ts X.env).map (·.2)) us) (fun _ s' => ∃ σ' H', Inv X pins σ' H' s' ∧ Q σ' H') X.xe s
abbrev TSet := V → V → V → Hp → (Hp → Prop) → Prop
def PSet (X : Cx) (t : TSet) : Prop :=
 ∀ (pins : List (Addr × Obj)) (s : Shared) (σ : St) (H : Hp) (o i v : V) (ov iv u : Value) (Q : Hp → Prop), Inv X pins σ H s → RelV o ov → RelV i iv → RelV v u → t o i v H Q →
  wpAny (model X.prog X.w) X.A (setItem ov iv u) (fun _ s' => ∃ H', Inv X pins σ H' s' ∧ Q H') X.xe s
abbrev TIp := V → V → Hp → VK → Prop
def PIp (X : Cx) (op : Operator) (t : TIp) : Prop :=
 ∀ (pins : List (Addr × Obj)) (s : Shared) (σ : St) (H : Hp) (x y : V) (v u : Value) (Q : VK), Inv X pins σ H s → RelV x v → RelV y u → t x y H Q →
  wpAny (model X.prog X.w) X.A (inplaceOp op v u) (EP X pins σ Q) X.xe s
section
variable {X : Cx} {pos : Pos}
def gName (i : Nat) : TG := fun v σ H Q => Q (σ.set i (some v)) H
theorem zami {i : Nat} {x : Str} (hN : X.N.Nodup) (hi : X.N[i]? = some x) (hx : Loc X.env.scope x) (hf : X.fn x = true ∨ X.env.scope.names.lookup x = some .local := by first | exact .inl rfl | exact .inr rfl | assumption) : PG X (.Name x pos) (gName i) := by
 intro pins s σ H v u Q I r h
 exact wpAny_assign_Name (zafc I hN hi hx r (fun s' I' => ⟨_, H, I', h⟩) hf)
def gNil : TGs := fun vs σ H Q => vs = [] ∧ Q σ H
def gCons (t : TG) (u : TGs) : TGs := fun vs σ H Q => ∃ v r, vs = v :: r ∧ t v σ H fun σ' H' => u r σ' H' Q
theorem zamj : PGs X [] gNil := by
 intro pins s σ H vs us Q I r h
 obtain ⟨e, h⟩ := h
 subst e
 cases r
 exact assignInOrder_nil ⟨σ, H, I, h⟩
theorem zakr {e : Expr} {es : List Expr} {t : TG} {u : TGs} (h1 : PG X e t) (h2 : PGs X es u)
  (hs : (assignEach (e :: es) X.env).map (·.2) = assign e X.env :: (assignEach es X.env).map (·.2) := by rfl) : PGs X (e :: es) (gCons t u) := by
 intro pins s σ H vs us Q I r h
 obtain ⟨v, vr, e1, h⟩ := h
 subst e1
 cases r with
 | cons r rr =>
  rw [hs]
  refine assignInOrder_cons (thn (h1 pins s σ H _ _ _ I r h) fun _ s1 ⟨σ1, H1, I1, q1⟩ => ?_)
  exact h2 pins s1 σ1 H1 _ _ Q I1 rr q1
def gTup (K : PySem.W.Frag) (n : Nat) (t : TGs) : TG := fun v σ H Q => ∃ a xs, v = .ref a ∧ SqT K H a xs ∧ xs.length = n ∧ t xs σ H Q
theorem zal0 {es : List Expr} {k : Nat} {t : TGs} {n : Nat} (hc : X.calm = true) (h : PGs X es t)
  (hn : (assignEach es X.env).length = n := by rfl) (hst : (assignEach es X.env).findIdx? (·.1) = none := by rfl) : PG X (.Tuple es k pos) (gTup X.K n t) := by
 intro pins s σ H v u Q I r hw
 obtain ⟨a, xs, e1, hq, hl, hw⟩ := hw
 subst e1
 cases r
 obtain ⟨its, rv, ht, hz⟩ := I.tuple hq
 refine assign_Tuple_tuple (I.ok.hd hc) ht (by simp [hn, ← hl, rv.length]) hst fun h' hx => ?_
 have I1 : Inv X pins σ H { s with heap := h' } := I.kept (t' := s.toks) fun b o e => hx b o (Nat.ne_of_lt (Heap.lt_size e)) e
 exact h pins _ σ H xs _ Q I1 (by simpa using rv) hw
def gSub (to ti : TE) (t : TSet) : TG := fun v σ H Q => to σ H fun o H1 => ti σ H1 fun i H2 => t o i v H2 fun H3 => Q σ H3
theorem zaog {o i : Expr} {to ti : TE} {t : TSet} (ho : PE X o to) (hi : PE X i ti) (hs : PSet X t)
  (ha : ∀ v, assign (.Subscript o i pos) X.env v = (do
   let ov ← holding [v] (eval o X.env)
   let iv ← holding [v, ov] (eval i X.env)
   standAt pos
   holding [v, ov, iv] (setItem ov iv v)
   release [v, ov, iv] []) := by intro _; rfl) : PG X (.Subscript o i pos) (gSub to ti t) := by
 intro pins s σ H v u Q I r h
 rw [ha]
 refine wpAny_bind (wpAny_holding (thn (ho pins s σ H _ I h) fun ov s1 ⟨x, H1, I1, r1, q1⟩ => ?_))
 refine wpAny_bind (wpAny_holding (thn (hi pins s1 σ H1 _ I1 q1) fun iv s2 ⟨y, H2, I2, r2, q2⟩ => ?_))
 refine wpAny_bind (wpAny_standAt (wpAny_bind (wpAny_holding (thn (hs pins s2 σ H2 x y v ov iv u _ I2 r1 r2 r q2) fun _ s3 ⟨H3, I3, q3⟩ => ?_))))
 exact wpAny_release ⟨σ, H3, I3, q3⟩
def tAsg (te : TE) (g : TG) : TS := fun D σ H => te σ H fun x H1 => g x σ H1 D.nx
theorem zaoh {tg e : Expr} {te : TE} {g : TG} (he : PE X e te) (hg : PG X tg g) (hs : swapsWithSole [tg] e pos.line X.env = pure false := by rfl) (hw : swappedStores [tg] e X.env = pure none := by rfl)
  (h1 : (assignEach [tg] X.env).map (·.2) = [assign tg X.env] := by rfl) : PS X (.Assign [tg] e pos) (tAsg te g) := by
 intro pins s σ H D I h
 refine wpAny_Assign_stores (thn (he pins s σ H _ I h) fun v s1 ⟨x, H1, I1, r1, q1⟩ => ?_) hs hw
 rw [h1]
 exact thn (hg pins s1 σ H1 x v _ I1 r1 q1) fun _ s2 q => q
theorem zaoi {i : Nat} {x : Str} {e : Expr} {te : TE} {pos' : Pos} (hN : X.N.Nodup) (hi : X.N[i]? = some x) (hx : Loc X.env.scope x) (he : PE X e te) (hs : swapsWith e (some (.Name x pos')) pos.line X.env = pure false := by rfl) (hf : X.fn x = true ∨ X.env.scope.names.lookup x = some .local := by first | exact .inl rfl | exact .inr rfl | assumption) :
  PS X (.Assign [.Name x pos'] e pos) (tAsg te (gName i)) := by
 intro pins s σ H D I h
 refine wpAny_Assign_Name (thn (he pins s σ H _ I h) fun v s1 ⟨y, H1, I1, r1, q1⟩ => ?_) hs
 exact zafc I1 hN hi hx r1 (fun s2 I2 => ⟨_, H1, I2, q1⟩) hf
def tPar (i j : Nat) (ta : TA) : TS := fun D σ H => ta σ H fun vs H1 => ∃ v w, vs = [v, w] ∧ D.nx ((σ.set i (some v)).set j (some w)) H1
def tAug (i : Nat) (te : TE) (ti : TIp) : TS := fun D σ H => ∃ x, σ[i]? = some (some x) ∧ te σ H fun y H1 => ti x y H1 fun z H2 => D.nx (σ.set i (some z)) H2
def tAugS (to ti te : TE) (tget : V → V → Hp → VK → Prop) (tip : TIp) (tset : TSet) : TS := fun D σ H => to σ H fun o H1 => ti σ H1 fun i H2 => tget o i H2 fun x H3 => te σ H3 fun y H4 => tip x y H4 fun z H5 => tset o i z H5 fun H6 => D.nx σ H6
def PGet (X : Cx) (t : V → V → Hp → VK → Prop) : Prop :=
 ∀ (pins : List (Addr × Obj)) (s : Shared) (σ : St) (H : Hp) (o i : V) (ov iv : Value) (Q : VK), Inv X pins σ H s → RelV o ov → RelV i iv → t o i H Q →
  wpAny (model X.prog X.w) X.A (getItem ov iv) (EP X pins σ Q) X.xe s
def ipI (f : Int → Int → Int) : TIp := fun x y H Q => ∃ i j, x = .int i ∧ y = .int j ∧ Q (.int (f i j)) H
def tWhile (c : TT) (tb : TS) : TS := fun D σ H => ∃ W : Nat → St → Hp → Prop, (∃ m, W m σ H) ∧ ∀ m σ H, W m σ H →
 c σ H fun b H1 => if b = true then ∃ N : St → Hp → Prop, (∀ σ' H', N σ' H' → ∃ m', m' < m ∧ W m' σ' H') ∧ tb { D with nx := N, ct := N, bk := D.nx } σ H1 else D.nx σ H1
end
structure It where
 go : Nat → Hp → Prop
 yld : Nat → Hp → V → Hp → Prop
 stop : Nat → Hp → Prop
def FpOk (X : Cx) (pins : List (Addr × Obj)) (H : Hp) (b : Addr) : Prop :=
 H b = none ∧ b ≠ X.env.locals ∧ b ∉ X.fs ∧ (b ∈ X.ex ∨ X.s₀.heap.objs.size ≤ b) ∧ (∀ x c, X.env.cells.lookup x = some c → c ≠ b) ∧ ∀ p ∈ X.pn ++ pins, p.1 ≠ b
theorem Inv.fpOk {X : Cx} {pins : List (Addr × Obj)} {σ : St} {H H' : Hp} {s : Shared} {b : Addr} (I : Inv X pins σ H s) (hb : s.heap.objs.size ≤ b) (hn : H' b = none) : FpOk X pins H' b := by
 refine ⟨hn, Nat.ne_of_gt (Nat.lt_of_lt_of_le I.lt hb), I.nofs hb, .inr (Nat.le_trans I.sz hb), fun x c e z => ?_, fun p hp z => ?_⟩
 ·obtain ⟨v, q⟩ := I.cell x c e
  exact absurd (Nat.lt_of_lt_of_le q.lt (by rw [z]; exact hb)) (Nat.lt_irrefl _)
 ·exact absurd (Nat.lt_of_lt_of_le (Heap.lt_size (I.pin p hp).1) (by rw [z]; exact hb)) (Nat.lt_irrefl _)
structure Turn (P : Program) (w : World) (K : PySem.W.Frag) (tg : Expr) (J : It) (fp : List Addr) (it : Addr) (tn : Nat → Heap → Prop) : Prop where
 mem : it ∈ fp
 obj : ∀ i h, tn i h → ∀ b ∈ fp, ∃ o, h.get? b = some o ∧ ∀ v, o.data ≠ .cell v
 keep : ∀ i h h', tn i h → (∀ b ∈ fp, ∀ o, h.get? b = some o → h'.get? b = some o) → tn i h'
 item : ∀ (X : Cx), X.prog = P → X.w = w → X.K = K → X.calm = true → ∀ (i : Nat) (pins : List (Addr × Obj)) (s : Shared) (σ : St) (H : Hp) (E : Value → Shared → Prop), Inv X pins σ H s → (∀ b ∈ fp, FpOk X pins H b) → tn i s.heap → J.go i H →
  wpAny (model P w) X.A (pyNext (.ref it)) (fun r s1 => ∃ u, r = some u ∧
   wpAny (model P w) X.A (letOwnedTupleGo tg (.ref it) u) (fun _ s2 => ∃ x H', Inv X pins σ H' s2 ∧ RelV x u ∧ J.yld i H x H' ∧ tn (i + 1) s2.heap ∧ ∀ b ∈ fp, H' b = none) E s1) E s
 done : ∀ (X : Cx), X.prog = P → X.w = w → X.K = K → X.calm = true → ∀ (i : Nat) (pins : List (Addr × Obj)) (s : Shared) (σ : St) (H : Hp) (E : Value → Shared → Prop), Inv X pins σ H s → (∀ b ∈ fp, FpOk X pins H b) → tn i s.heap → J.stop i H →
  wpAny (model P w) X.A (pyNext (.ref it)) (fun r s1 => r = none ∧ Inv X pins σ H s1) E s
 self : ∀ (A : Around) (i : Nat) (s : Shared) (Q : Value → Shared → Prop) (E : Value → Shared → Prop), tn i s.heap → Q (.ref it) s → wpAny (model P w) A (pyIter (.ref it)) Q E s
abbrev TI := St → Hp → (It → Hp → Prop) → Prop
def PIE (X : Cx) (pins : List (Addr × Obj)) (σ : St) (tg : Expr) (R : It → Hp → Prop) (itv : Value) (s2 : Shared) : Prop :=
 ∃ (it : Addr) (fp : List Addr) (tn : Nat → Heap → Prop) (J : It) (H' : Hp), itv = .ref it ∧ Inv X pins σ H' s2 ∧ Turn X.prog X.w X.K tg J fp it tn ∧ tn 0 s2.heap ∧ (∀ b ∈ fp, FpOk X pins H' b) ∧ R J H'
def PI (X : Cx) (tg iter : Expr) (wi : TI) : Prop :=
 ∀ (pins : List (Addr × Obj)) (s : Shared) (σ : St) (H : Hp) (R : It → Hp → Prop), Inv X pins σ H s → wi σ H R →
  wpAny (model X.prog X.w) X.A (eval iter X.env) (fun v s1 => wpAny (model X.prog X.w) X.A (pyIter v) (PIE X pins σ tg R) X.xe s1) X.xe s
theorem zaks {M : Model} {A : Around} {E : Value → Shared → Prop} {s : Shared} {tg : Expr} {it : Addr} {u : Value} {o : Obj} {n : String} {vs : Array Value} {Q : Unit → Shared → Prop} (ho : s.heap.get? it = some o) (hc : o.cls = .type n) (hd : o.data = .fields vs)
  (hn : ["enumerate", "zip", "dict_itemiterator", "dict_reverseitemiterator", "odict_iterator", "itertools.zip_longest", "itertools.pairwise"].contains n = false) (hQ : Q () s) : wpAny M A (letOwnedTupleGo tg (.ref it) u) Q E s := by
 unfold letOwnedTupleGo
 cases tg <;> first
  | exact wpAny_pure hQ
  | (cases u <;> first
    | exact wpAny_pure hQ
    | (refine wpAny_bind (wpAny_load ho ?_)
       rw [hc, hd]
       show wpAny M A (if (["enumerate", "zip", "dict_itemiterator", "dict_reverseitemiterator", "odict_iterator", "itertools.zip_longest", "itertools.pairwise"].contains n && vs[0]? == some (rawInt _)) = true then _ else _) Q E s
       rw [if_neg (by intro h; rw [hn, Bool.false_and] at h; cases h)]
       exact wpAny_pure hQ))
def Itl (K : PySem.W.Frag) (a : Addr) : It :=
 ⟨fun i H => ∃ xs x, SqL K H a xs ∧ xs[i]? = some x, fun i H x H' => H' = H ∧ ∀ xs, SqL K H a xs → xs[i]? = some x, fun i H => ∃ xs, SqL K H a xs ∧ xs.length ≤ i⟩
def Itt (K : PySem.W.Frag) (a : Addr) : It :=
 ⟨fun i H => ∃ xs x, SqT K H a xs ∧ xs[i]? = some x, fun i H x H' => H' = H ∧ ∀ xs, SqT K H a xs → xs[i]? = some x, fun i H => ∃ xs, SqT K H a xs ∧ xs.length ≤ i⟩
def Itr (lo : Int) (n : Nat) : It := ⟨fun i _ => i < n, fun i H x H' => H' = H ∧ x = .int (lo + i), fun i _ => n ≤ i⟩
theorem zaiy {P : Program} {w : World} {K : PySem.W.Frag} {tg : Expr} (a it : Addr) : Turn P w K tg (Itl K a) [it] it (fun i h => h.IsListIter it a i) where
 mem := by simp
 obj := fun i h st b hb => by
  have e : b = it := by simpa using hb
  subst e
  obtain ⟨o, e, c, d⟩ := st
  exact ⟨o, e, fun v z => by rw [d] at z; cases z⟩
 keep := fun i h h' st k => st.at fun o e => k it (by simp) o e
 item := by
  intro X hP hw hK hc i pins s σ H E I hf st hg
  subst hP hw hK
  obtain ⟨xs, x, hq, hx⟩ := hg
  obtain ⟨its, rv, p, hz⟩ := I.list hq
  obtain ⟨u, hu, ru⟩ := rv.get hx
  obtain ⟨f0, f1, f2, f3, f4, f5⟩ := hf it (by simp)
  refine wpAny_pyNext_list_item st p.isList (x := u) (by simpa using hu) fun h' st' sb => ?_
  have I1 : Inv X pins σ H { s with heap := h' } := I.turned (t' := s.toks) (fun b o hb e => (sb.2 b hb).trans e) f0 f1 f3 f4 f5
  obtain ⟨o, e, c, d⟩ := id st'
  exact ⟨u, rfl, zaks (s := { s with heap := h' }) e c d (by decide) ⟨x, H, I1, ru, ⟨rfl, fun ys hy => by rw [I.list_inj hy hq]; exact hx⟩, st', fun b hb => (hf b hb).1⟩⟩
 done := by
  intro X hP hw hK hc i pins s σ H E I hf st hg
  subst hP hw hK
  obtain ⟨xs, hq, hx⟩ := hg
  obtain ⟨its, rv, p, hz⟩ := I.list hq
  obtain ⟨f0, f1, f2, f3, f4, f5⟩ := hf it (by simp)
  have hl := rv.length
  exact wpAny_pyNext_list_end (I.ok.hd hc) st p.isList (by simp; omega) fun h' eb => ⟨rfl, I.turned (t' := s.toks) (fun b o hb e => eb b o hb e) f0 f1 f3 f4 f5⟩
 self := fun _ _ _ _ _ st h => wpAny_pyIter_listiter st h
theorem zaib {P : Program} {w : World} {K : PySem.W.Frag} {tg : Expr} (a it : Addr) : Turn P w K tg (Itt K a) [it] it (fun i h => h.IsTupleIter it a i) where
 mem := by simp
 obj := fun i h st b hb => by
  have e : b = it := by simpa using hb
  subst e
  obtain ⟨o, e, c, d⟩ := st
  exact ⟨o, e, fun v z => by rw [d] at z; cases z⟩
 keep := fun i h h' st k => st.at fun o e => k it (by simp) o e
 item := by
  intro X hP hw hK hc i pins s σ H E I hf st hg
  subst hP hw hK
  obtain ⟨xs, x, hq, hx⟩ := hg
  obtain ⟨its, rv, p, hz⟩ := I.tuple hq
  obtain ⟨u, hu, ru⟩ := rv.get hx
  obtain ⟨f0, f1, f2, f3, f4, f5⟩ := hf it (by simp)
  refine wpAny_pyNext_tuple_item st (show s.heap.IsTuple a its.toArray from p) (x := u) (by simpa using hu) fun h' st' sb => ?_
  have I1 : Inv X pins σ H { s with heap := h' } := I.turned (t' := s.toks) (fun b o hb e => (sb.2 b hb).trans e) f0 f1 f3 f4 f5
  obtain ⟨o, e, c, d⟩ := id st'
  exact ⟨u, rfl, zaks (s := { s with heap := h' }) e c d (by decide) ⟨x, H, I1, ru, ⟨rfl, fun ys hy => by rw [I.tuple_inj hy hq]; exact hx⟩, st', fun b hb => (hf b hb).1⟩⟩
 done := by
  intro X hP hw hK hc i pins s σ H E I hf st hg
  subst hP hw hK
  obtain ⟨xs, hq, hx⟩ := hg
  obtain ⟨its, rv, p, hz⟩ := I.tuple hq
  obtain ⟨f0, f1, f2, f3, f4, f5⟩ := hf it (by simp)
  have hl := rv.length
  exact wpAny_pyNext_tuple_end (I.ok.hd hc) st (show s.heap.IsTuple a its.toArray from p) (by simp; omega) fun h' eb => ⟨rfl, I.turned (t' := s.toks) (fun b o hb e => eb b o hb e) f0 f1 f3 f4 f5⟩
 self := fun _ _ _ _ _ st h => wpAny_pyIter_tupleiter st h
theorem zaic {P : Program} {w : World} {K : PySem.W.Frag} {tg : Expr} (it : Addr) (lo : Int) (n : Nat) : Turn P w K tg (Itr lo n) [it] it (fun i h => IsRangeIter h it (lo + (i : Nat) * 1) ((n : Int) - (i : Nat)) 1) where
 mem := by simp
 obj := fun i h st b hb => by
  have e : b = it := by simpa using hb
  subst e
  exact ⟨_, st, fun v z => by
   have z' : Data.fields _ = Data.cell v := z
   cases z'⟩
 keep := fun i h h' st k => k it (by simp) _ st
 item := by
  intro X hP hw hK hc i pins s σ H E I hf st hg
  subst hP hw hK
  obtain ⟨f0, f1, f2, f3, f4, f5⟩ := hf it (by simp)
  have W := Walks.range (prog := X.prog) (w := X.w) (I.ok.hd hc) it lo 1 n
  refine W.item i s _ _ hg st fun v h' tk hv st' kk => ?_
  obtain ⟨t, rfl⟩ := hv
  have I1 : Inv X pins σ H { s with heap := h', toks := tk } := I.turned (fun b o hb e => kk b o (by simpa using hb) e) f0 f1 f3 f4 f5
  refine ⟨_, rfl, zaks (s := { s with heap := h', toks := tk }) (n := "range_iterator") st' rfl rfl (by decide) ⟨.int (lo + i), H, I1, ⟨t, ?_⟩, ⟨rfl, rfl⟩, st', fun b hb => (hf b hb).1⟩⟩
  rw [Int.mul_one]
 done := by
  intro X hP hw hK hc i pins s σ H E I hf st hg
  subst hP hw hK
  obtain ⟨f0, f1, f2, f3, f4, f5⟩ := hf it (by simp)
  exact wpAny_pyNext_range_end (I.ok.hd hc) st (by have : n ≤ i := hg; omega) fun h' eb => ⟨rfl, I.turned (t' := s.toks) (fun b o hb e => eb b o hb e) f0 f1 f3 f4 f5⟩
 self := fun _ _ _ _ _ st h => wpAny_pyIter_rangeiter st h
section
variable {X : Cx} {tg : Expr}
def iList (K : PySem.W.Frag) (tl : TE) : TI := fun σ H R => tl σ H fun x H1 => ∃ a, x = .ref a ∧ (∃ xs, SqL K H1 a xs) ∧ R (Itl K a) H1
def iTup (K : PySem.W.Frag) (tl : TE) : TI := fun σ H R => tl σ H fun x H1 => ∃ a, x = .ref a ∧ (∃ xs, SqT K H1 a xs) ∧ R (Itt K a) H1
theorem zaiz {l : Expr} {tl : TE} (hl : PE X l tl) : PI X tg l (iList X.K tl) := by
 intro pins s σ H R I h
 refine thn (hl pins s σ H _ I h) fun v s1 ⟨x, H1, I1, r1, q1⟩ => ?_
 obtain ⟨a, e, ⟨xs, hq⟩, q⟩ := q1
 subst e
 cases r1
 obtain ⟨its, rv, p, hz⟩ := I1.list hq
 refine wpAny_pyIter_list p.isList ?_
 refine ⟨s1.heap.objs.size, [s1.heap.objs.size], _, _, H1, rfl, I1.kept (t' := s1.toks) fun b o e => Heap.get?_push_of_some _ e, zaiy a _, ⟨_, Heap.get?_push_size _ rfl, rfl, rfl⟩, fun b hb => ?_, q⟩
 have e : b = s1.heap.objs.size := by simpa using hb
 subst e
 exact I1.fpOk (Nat.le_refl _) (I1.hok.fresh (Nat.le_refl _))
theorem zal1 {l : Expr} {tl : TE} (hl : PE X l tl) : PI X tg l (iTup X.K tl) := by
 intro pins s σ H R I h
 refine thn (hl pins s σ H _ I h) fun v s1 ⟨x, H1, I1, r1, q1⟩ => ?_
 obtain ⟨a, e, ⟨xs, hq⟩, q⟩ := q1
 subst e
 cases r1
 obtain ⟨its, rv, p, hz⟩ := I1.tuple hq
 refine wpAny_pyIter_tuple (show s1.heap.IsTuple a its.toArray from p) ?_
 refine ⟨s1.heap.objs.size, [s1.heap.objs.size], _, _, H1, rfl, I1.kept (t' := s1.toks) fun b o e => Heap.get?_push_of_some _ e, zaib a _, ⟨_, Heap.get?_push_size _ rfl, rfl, rfl⟩, fun b hb => ?_, q⟩
 have e : b = s1.heap.objs.size := by simpa using hb
 subst e
 exact I1.fpOk (Nat.le_refl _) (I1.hok.fresh (Nat.le_refl _))
theorem zahr {pins : List (Addr × Obj)} {σ : St} {H : Hp} {s : Shared} {R : It → Hp → Prop} {E : Value → Shared → Prop} {lo hi : Int} {t u v : Tok} {tk : Nat} (I : Inv X pins σ H s) (h1 : -(2 ^ 62) ≤ lo) (h2 : lo < 2 ^ 62) (h3 : -(2 ^ 62) ≤ hi) (h4 : hi < 2 ^ 62)
  (q : R (Itr lo (hi - lo).toNat) H) : wpAny (model X.prog X.w) X.A (pyIter (.ref s.heap.objs.size)) (PIE X pins σ tg R) E { s with heap := s.heap.push { cls := .type "range", data := .fields #[.int lo t, .int hi u, .int 1 v] }, toks := tk } := by
 refine wpAny_pyIter_range (IsRange.new ..) (small_one h1 h2 h3 h4) ?_
 have I1 : Inv X pins σ H { s with heap := s.heap.push { cls := .type "range", data := .fields #[.int lo t, .int hi u, .int 1 v] }, toks := tk } := I.kept fun b o e => Heap.get?_push_of_some _ e
 refine ⟨(s.heap.push { cls := .type "range", data := .fields #[.int lo t, .int hi u, .int 1 v] }).objs.size, [(s.heap.push { cls := .type "range", data := .fields #[.int lo t, .int hi u, .int 1 v] }).objs.size], _, _, H, rfl,
  I1.kept (t' := tk) fun b o e => Heap.get?_push_of_some _ e, zaic _ lo (hi - lo).toNat, ?_, fun b hb => ?_, q⟩
 ·have e1 : lo + ((0 : Nat) : Int) * 1 = lo := by simp
  have e2 : (((hi - lo).toNat : Nat) : Int) - ((0 : Nat) : Int) = Builtin.Range.rangeSize lo hi 1 := by rw [rangeSize_one]; split <;> omega
  show IsRangeIter _ _ (lo + ((0 : Nat) : Int) * 1) ((((hi - lo).toNat : Nat) : Int) - ((0 : Nat) : Int)) 1
  rw [e1, e2]
  exact Heap.get?_push_size _ rfl
 ·have e : b = (s.heap.push { cls := .type "range", data := .fields #[.int lo t, .int hi u, .int 1 v] }).objs.size := by simpa using hb
  subst e
  exact I1.fpOk (Nat.le_refl _) (I1.hok.fresh (Nat.le_refl _))
def iRng1 (ta : TA) : TI := fun σ H R => ta σ H fun vs H1 => ∃ j : Int, vs = [.int j] ∧ -(2 ^ 62) ≤ j ∧ j < 2 ^ 62 ∧ R (Itr 0 j.toNat) H1
def iRng2 (ta : TA) : TI := fun σ H R => ta σ H fun vs H1 => ∃ i j : Int, vs = [.int i, .int j] ∧ (-(2 ^ 62) ≤ i ∧ i < 2 ^ 62 ∧ -(2 ^ 62) ≤ j ∧ j < 2 ^ 62) ∧ R (Itr i (j - i).toNat) H1
theorem zai0 {a : Expr} {ta : TA} {p pos : Pos} (hg : Gl X "range") (hm : X.mg "range" = none) (ha : PA X [a] ta) (hs : starEach [a] X.env = [(false, eval a X.env)] := by rfl) : PI X tg (.Call (.Name "range" p) [a] [] pos) (iRng1 ta) := by
 intro pins s σ H R I h
 refine Call_ (zaea I hg hm boot_range (PyProof.Rows.callWith_type1 (thn (ha pos pins s σ H _ I h) fun us s1 ⟨vs, H1, I1, r1, q1⟩ => ?_) hs rfl))
 obtain ⟨j, e, q1, q2, q⟩ := q1
 subst e
 cases r1 with
 | cons r rr =>
  cases rr
  obtain ⟨t, rfl⟩ := r
  exact call_range_1 (zahr I1 (by omega) (by omega) q1 q2 (by simpa using q))
theorem zai1 {a b : Expr} {ta : TA} {p pos : Pos} (hg : Gl X "range") (hm : X.mg "range" = none) (ha : PA X [a, b] ta) (hs : starEach [a, b] X.env = [(false, eval a X.env), (false, eval b X.env)] := by rfl) (hs2 : starEach [b] X.env = [(false, eval b X.env)] := by rfl) :
  PI X tg (.Call (.Name "range" p) [a, b] [] pos) (iRng2 ta) := by
 intro pins s σ H R I h
 refine Call_ (zaea I hg hm boot_range (PyProof.Rows.callWith_type1 (thn (ha pos pins s σ H _ I h) fun us s1 ⟨vs, H1, I1, r1, q1⟩ => ?_) (by rw [hs, hs2]) (by rw [hs2]; rfl)))
 obtain ⟨i, j, e, ⟨q1, q2, q3, q4⟩, q⟩ := q1
 subst e
 cases r1 with
 | cons r rr =>
  cases rr with
  | cons r' rr =>
   cases rr
   obtain ⟨t, rfl⟩ := r
   obtain ⟨t', rfl⟩ := r'
   exact call_range_2 (zahr I1 q1 q2 q3 q4 q)
def tFor (wi : TI) (g : TG) (tb : TS) : TS := fun D σ H => wi σ H fun J H1 => ∃ W : Nat → Nat → St → Hp → Prop, (∃ m, W 0 m σ H1) ∧ ∀ i m σ H, W i m σ H →
 (J.stop i H ∧ D.nx σ H) ∨ (J.go i H ∧ ∃ N : St → Hp → Prop, (∀ σ' H', N σ' H' → ∃ m', m' < m ∧ W (i + 1) m' σ' H') ∧ ∀ x H', J.yld i H x H' → g x σ H' fun σ2 H2 => tb { D with nx := N, ct := N, bk := D.nx } σ2 H2)
def pinsAt (fp : List Addr) (h : Heap) : List (Addr × Obj) := fp.filterMap fun b => (h.get? b).map fun o => (b, o)
theorem zada {fp : List Addr} {h : Heap} {b : Addr} {o : Obj} (hb : b ∈ fp) (e : h.get? b = some o) : (b, o) ∈ pinsAt fp h := List.mem_filterMap.mpr ⟨b, hb, by rw [e]; rfl⟩
theorem zagb {fp : List Addr} {h : Heap} {p : Addr × Obj} (hp : p ∈ pinsAt fp h) : p.1 ∈ fp ∧ h.get? p.1 = some p.2 := by
 obtain ⟨b, hb, e⟩ := List.mem_filterMap.mp hp
 cases q : h.get? b with
 | none => rw [q] at e; cases e
 | some o =>
  rw [q] at e
  have e' : (b, o) = p := Option.some.inj e
  subst e'
  exact ⟨hb, q⟩
theorem Inv.pinned {pins : List (Addr × Obj)} {σ : St} {H : Hp} {s : Shared} {fp : List Addr} (I : Inv X pins σ H s) (hf : ∀ b ∈ fp, FpOk X pins H b) (ho : ∀ b ∈ fp, ∃ o, s.heap.get? b = some o ∧ ∀ v, o.data ≠ .cell v) : Inv X (pins ++ pinsAt fp s.heap) σ H s :=
 I.pins_of fun p hp => (List.mem_append.mp hp).elim (fun z => I.pin p (List.mem_append_right _ z)) fun z => by
  obtain ⟨hb, e⟩ := zagb z
  obtain ⟨f0, f1, f2, _⟩ := hf p.1 hb
  obtain ⟨o, e', d⟩ := ho p.1 hb
  rw [e] at e'; cases e'
  exact ⟨e, f0, f1, f2, d⟩
theorem Inv.unpinned {pins pl : List (Addr × Obj)} {σ : St} {H : Hp} {s : Shared} (I : Inv X (pins ++ pl) σ H s) : Inv X pins σ H s := I.pins_of fun p hp => I.pin p (List.mem_append_right _ (List.mem_append_left _ hp))
theorem zaoj {iter : Expr} {body : List Stmt} {wi : TI} {g : TG} {tb : TS} {pos : Pos} (hp : PassesOwn (model X.prog X.w) X.A X.env X.xe) (hc : X.calm = true) (hi : PI X tg iter wi) (hg : PG X tg g) (hb : PSs X body tb)
  (hs : ∀ x, foldedSetIterable iter X.env x = pure x := by intro _; rfl) : PS X (.For tg iter body [] pos) (tFor wi g tb) := by
 intro pins s σ H D I h
 refine wpAny_For (thn (hi pins s σ H _ I h) fun v s1 h1 => thn h1 fun itv s2 h2 => ?_) hs
 obtain ⟨it, fp, tn, J, H2, e, I2, T, st2, f2, W, ⟨m0, w0⟩, turn⟩ := h2
 subst e
 have stat : ∀ {H' : Hp}, (∀ b ∈ fp, H' b = none) → ∀ b ∈ fp, FpOk X pins H' b := fun hn b hb => ⟨hn b hb, (f2 b hb).2⟩
 refine codeAny_forLoop_any (fun n s' => ∃ i σ' H', Inv X pins σ' H' s' ∧ tn i s'.heap ∧ (∀ b ∈ fp, H' b = none) ∧ W i n σ' H') ?_ m0 ⟨0, σ, H2, I2, st2, fun b hb => (f2 b hb).1, w0⟩
 rintro n s3 ⟨i, σ3, H3, I3, st3, fr3, w3⟩
 rcases turn i n σ3 H3 w3 with ⟨stop, qn⟩ | ⟨go, N, hN, step⟩
 ·refine wpAny_passesOwn hp (thn (T.done X rfl rfl rfl hc i pins s3 σ3 H3 X.xe I3 (stat fr3) st3 stop) fun r s4 ⟨hr, I4⟩ => ?_)
  subst hr
  exact wpAny_execs_nil ⟨σ3, H3, I4, qn⟩
 ·refine wpAny_passesOwn hp (thn (T.item X rfl rfl rfl hc i pins s3 σ3 H3 X.xe I3 (stat fr3) st3 go) fun r s4 ⟨u, hr, h4⟩ => ?_)
  subst hr
  refine wpAny_passesOwn hp (thn h4 fun _ s5 ⟨x, H5, I5, r5, y5, st5, fr5⟩ => ?_)
  have I5' := I5.pinned (stat fr5) (T.obj _ _ st5)
  refine wpAny_passesOwn hp (thn (hg _ s5 σ3 H5 x u _ I5' r5 (step x H5 y5)) fun _ s6 ⟨σ6, H6, I6, q6⟩ => ?_)
  refine wpAny_passesOwn hp (thn (hb _ s6 σ6 H6 _ I6 q6) fun f s7 q7 => ?_)
  have again : ∀ {σ7 : St} {H7 : Hp}, Inv X (pins ++ pinsAt fp s5.heap) σ7 H7 s7 → N σ7 H7 → ∃ m, m < n ∧ ∃ i σ' H', Inv X pins σ' H' s7 ∧ tn i s7.heap ∧ (∀ b ∈ fp, H' b = none) ∧ W i m σ' H' := fun {σ7 H7} I7 n7 => by
   obtain ⟨m', hm, w7⟩ := hN σ7 H7 n7
   refine ⟨m', hm, i + 1, σ7, H7, I7.unpinned, T.keep _ _ _ st5 fun b hb o e => (I7.pin (b, o) (List.mem_append_right _ (List.mem_append_right _ (zada hb e)))).1, fun b hb => ?_, w7⟩
   obtain ⟨o, e, d⟩ := T.obj _ _ st5 b hb
   exact (I7.pin (b, o) (List.mem_append_right _ (List.mem_append_right _ (zada hb e)))).2.1
  cases f with
  | next => obtain ⟨σ7, H7, I7, n7⟩ := q7; exact again I7 n7
  | cont => obtain ⟨σ7, H7, I7, n7⟩ := q7; exact again I7 n7
  | brk => obtain ⟨σ7, H7, I7, q7⟩ := q7; exact ⟨σ7, H7, I7.unpinned, q7⟩
  | ret v => obtain ⟨x7, σ7, H7, I7, r7, q7⟩ := q7; exact ⟨x7, σ7, H7, I7.unpinned, r7, q7⟩
end
theorem zakt {K : PySem.W.Frag} {a : Addr} {xs : List V} {g : TG} {tb : TS} {D : Ends} {σ : St} {H : Hp} (Pv : Nat → St → Hp → Prop) (h0 : Pv 0 σ H) (hl : ∀ i σ H, i ≤ xs.length → Pv i σ H → SqL K H a xs)
  (hs : ∀ i x σ H, xs[i]? = some x → Pv i σ H → g x σ H fun σ2 H2 => tb { D with nx := Pv (i + 1), ct := Pv (i + 1), bk := D.nx } σ2 H2) (hd : ∀ σ H, Pv xs.length σ H → D.nx σ H) :
  ∃ W : Nat → Nat → St → Hp → Prop, (∃ m, W 0 m σ H) ∧ ∀ i m σ H, W i m σ H →
   ((Itl K a).stop i H ∧ D.nx σ H) ∨ ((Itl K a).go i H ∧ ∃ N : St → Hp → Prop, (∀ σ' H', N σ' H' → ∃ m', m' < m ∧ W (i + 1) m' σ' H') ∧ ∀ x H', (Itl K a).yld i H x H' → g x σ H' fun σ2 H2 => tb { D with nx := N, ct := N, bk := D.nx } σ2 H2) := by
 refine ⟨fun i m σ H => m = xs.length - i ∧ i ≤ xs.length ∧ Pv i σ H, ⟨xs.length, by simp, Nat.zero_le _, h0⟩, ?_⟩
 rintro i m σ H ⟨rfl, hi, p⟩
 have q := hl i σ H hi p
 by_cases hlt : i < xs.length
 ·refine .inr ⟨⟨xs, xs[i], q, by simp [hlt]⟩, Pv (i + 1), fun σ' H' p' => ⟨xs.length - (i + 1), by omega, rfl, hlt, p'⟩, fun x H' y => ?_⟩
  obtain ⟨e, y⟩ := y
  subst e
  exact hs i x σ _ (y xs q) p
 ·have e : i = xs.length := by omega
  subst e
  exact .inl ⟨⟨xs, q, Nat.le_refl _⟩, hd σ H p⟩
theorem zamk {K : PySem.W.Frag} {a : Addr} {xs : List V} {g : TG} {tb : TS} {D : Ends} {σ : St} {H : Hp} (Pv : Nat → St → Hp → Prop) (h0 : Pv 0 σ H) (hl : ∀ i σ H, i ≤ xs.length → Pv i σ H → SqT K H a xs)
  (hs : ∀ i x σ H, xs[i]? = some x → Pv i σ H → g x σ H fun σ2 H2 => tb { D with nx := Pv (i + 1), ct := Pv (i + 1), bk := D.nx } σ2 H2) (hd : ∀ σ H, Pv xs.length σ H → D.nx σ H) :
  ∃ W : Nat → Nat → St → Hp → Prop, (∃ m, W 0 m σ H) ∧ ∀ i m σ H, W i m σ H →
   ((Itt K a).stop i H ∧ D.nx σ H) ∨ ((Itt K a).go i H ∧ ∃ N : St → Hp → Prop, (∀ σ' H', N σ' H' → ∃ m', m' < m ∧ W (i + 1) m' σ' H') ∧ ∀ x H', (Itt K a).yld i H x H' → g x σ H' fun σ2 H2 => tb { D with nx := N, ct := N, bk := D.nx } σ2 H2) := by
 refine ⟨fun i m σ H => m = xs.length - i ∧ i ≤ xs.length ∧ Pv i σ H, ⟨xs.length, by simp, Nat.zero_le _, h0⟩, ?_⟩
 rintro i m σ H ⟨rfl, hi, p⟩
 have q := hl i σ H hi p
 by_cases hlt : i < xs.length
 ·refine .inr ⟨⟨xs, xs[i], q, by simp [hlt]⟩, Pv (i + 1), fun σ' H' p' => ⟨xs.length - (i + 1), by omega, rfl, hlt, p'⟩, fun x H' y => ?_⟩
  obtain ⟨e, y⟩ := y
  subst e
  exact hs i x σ _ (y xs q) p
 ·have e : i = xs.length := by omega
  subst e
  exact .inl ⟨⟨xs, q, Nat.le_refl _⟩, hd σ H p⟩
theorem zai2 {lo : Int} {n : Nat} {g : TG} {tb : TS} {D : Ends} {σ : St} {H : Hp} (Pv : Nat → St → Hp → Prop) (h0 : Pv 0 σ H)
  (hs : ∀ i σ H, i < n → Pv i σ H → g (.int (lo + i)) σ H fun σ2 H2 => tb { D with nx := Pv (i + 1), ct := Pv (i + 1), bk := D.nx } σ2 H2) (hd : ∀ σ H, Pv n σ H → D.nx σ H) :
  ∃ W : Nat → Nat → St → Hp → Prop, (∃ m, W 0 m σ H) ∧ ∀ i m σ H, W i m σ H →
   ((Itr lo n).stop i H ∧ D.nx σ H) ∨ ((Itr lo n).go i H ∧ ∃ N : St → Hp → Prop, (∀ σ' H', N σ' H' → ∃ m', m' < m ∧ W (i + 1) m' σ' H') ∧ ∀ x H', (Itr lo n).yld i H x H' → g x σ H' fun σ2 H2 => tb { D with nx := N, ct := N, bk := D.nx } σ2 H2) := by
 refine ⟨fun i m σ H => m = n - i ∧ i ≤ n ∧ Pv i σ H, ⟨n, by simp, Nat.zero_le _, h0⟩, ?_⟩
 rintro i m σ H ⟨rfl, hi, p⟩
 by_cases hlt : i < n
 ·refine .inr ⟨hlt, Pv (i + 1), fun σ' H' p' => ⟨n - (i + 1), by omega, rfl, hlt, p'⟩, fun x H' y => ?_⟩
  obtain ⟨e, y⟩ := y
  subst e y
  exact hs i σ _ hlt p
 ·have e : i = n := by omega
  subst e
  exact .inl ⟨Nat.le_refl _, hd σ H p⟩
abbrev R2 := V → V → Hp → VK → Prop
def OpR (X : Cx) (f : Value → Value → Sem Value) (r : R2) : Prop :=
 ∀ (pins : List (Addr × Obj)) (s : Shared) (σ : St) (H : Hp) (x y : V) (v u : Value) (Q : VK), Inv X pins σ H s → RelV x v → RelV y u → r x y H Q →
  wpAny (model X.prog X.w) X.A (f v u) (EP X pins σ Q) X.xe s
def UnR (X : Cx) (f : Value → Sem Value) (r : V → Hp → VK → Prop) : Prop :=
 ∀ (pins : List (Addr × Obj)) (s : Shared) (σ : St) (H : Hp) (x : V) (v : Value) (Q : VK), Inv X pins σ H s → RelV x v → r x H Q →
  wpAny (model X.prog X.w) X.A (f v) (EP X pins σ Q) X.xe s
def CallR (X : Cx) (f : Value) (r : List V → Hp → VK → Prop) : Prop :=
 ∀ (pins : List (Addr × Obj)) (s : Shared) (σ : St) (H : Hp) (xs : List V) (us : List Value) (Q : VK), Inv X pins σ H s → Vals xs us → r xs H Q →
  wpAny (model X.prog X.w) X.A (call f us) (EP X pins σ Q) X.xe s
def TruR (X : Cx) (r : V → Hp → (Bool → Hp → Prop) → Prop) : Prop :=
 ∀ (pins : List (Addr × Obj)) (s : Shared) (σ : St) (H : Hp) (x : V) (v : Value) (Q : Bool → Hp → Prop), Inv X pins σ H s → RelV x v → r x H Q →
  wpAny (model X.prog X.w) X.A (truthy v) (TP X pins σ Q) X.xe s
def tOp (r : R2) (ta tb : TE) : TE := fun σ H Q => ta σ H fun x H1 => tb σ H1 fun y H2 => r x y H2 Q
def tUn (r : V → Hp → VK → Prop) (ta : TE) : TE := fun σ H Q => ta σ H fun x H1 => r x H1 Q
def rI (C : Int → Int → Prop) (g : Int → Int → V) : R2 := fun x y H Q => ∃ i j, x = .int i ∧ y = .int j ∧ C i j ∧ Q (g i j) H
def rI0 (g : Int → Int → V) : R2 := fun x y H Q => ∃ i j, x = .int i ∧ y = .int j ∧ Q (g i j) H
def rU (g : Int → V) : V → Hp → VK → Prop := fun x H Q => ∃ i, x = .int i ∧ Q (g i) H
section
variable {X : Cx} {a b c : Expr} {ta tb tc : TE} {pos : Pos}
theorem binT (ha : PE X a ta) (hb : PE X b tb) {pins : List (Addr × Obj)} {s : Shared} {σ : St} {H : Hp} {R : V → V → Hp → Prop} (I : Inv X pins σ H s)
  (h : ta σ H fun x H1 => tb σ H1 fun y H2 => R x y H2) {Q : Value → Shared → Prop} {f : Value → Value → Sem Value}
  (hf : ∀ v u s2 x y H2, Inv X pins σ H2 s2 → RelV x v → RelV y u → R x y H2 → wpAny (model X.prog X.w) X.A (f v u) Q X.xe s2) :
  wpAny (model X.prog X.w) X.A (eval a X.env) (fun v s₁ => wpAny (model X.prog X.w) X.A (eval b X.env) (fun u s₂ => wpAny (model X.prog X.w) X.A (f v u) Q X.xe s₂) X.xe s₁) X.xe s := by
 refine thn (ha pins s σ H _ I h) fun v s1 ⟨x, H1, I1, r1, q1⟩ => ?_
 refine thn (hb pins s1 σ H1 _ I1 q1) fun u s2 ⟨y, H2, I2, r2, q2⟩ => ?_
 exact hf v u s2 x y H2 I2 r1 r2 q2
theorem zapt {op : Operator} {r : R2} (ho : OpR X (binaryOp op) r) (ha : PE X a ta) (hb : PE X b tb) : PE X (.BinOp a op b pos) (tOp r ta tb) := by
 intro pins s σ H Q I h
 exact wpAny_BinOp (binT ha hb I h fun v u s2 x y H2 I2 rx ry q => ho pins s2 σ H2 x y v u Q I2 rx ry q)
theorem zapu {op : UnaryOp} {r : V → Hp → VK → Prop} (ho : UnR X (unaryOp op) r) (ha : PE X a ta) : PE X (.UnaryOp op a pos) (tUn r ta) := by
 intro pins s σ H Q I h
 exact UnaryOp_ (thn (ha pins s σ H _ I h) fun v s1 ⟨x, H1, I1, r1, q1⟩ => ho pins s1 σ H1 x v Q I1 r1 q1)
theorem opI {f : Value → Value → Sem Value} {C : Int → Int → Prop} {g : Int → Int → Int}
  (rule : ∀ (i j : Int) (t u : Tok) (s : Shared) (Q : Value → Shared → Prop) (E : Value → Shared → Prop), C i j → Q (.int (g i j) s.toks) { s with toks := s.toks + 1 } → wpAny (model X.prog X.w) X.A (f (.int i t) (.int j u)) Q E s) :
  OpR X f (rI C fun i j => .int (g i j)) := by
 intro pins s σ H x y v u Q I rx ry h
 obtain ⟨i, j, rfl, rfl, hc, q⟩ := h
 obtain ⟨t, rfl⟩ := rx
 obtain ⟨t', rfl⟩ := ry
 exact rule i j t t' s _ _ hc ⟨.int (g i j), H, I.tok _, ⟨_, rfl⟩, q⟩
theorem opI0 {f : Value → Value → Sem Value} {g : Int → Int → Int}
  (rule : ∀ (i j : Int) (t u : Tok) (s : Shared) (Q : Value → Shared → Prop) (E : Value → Shared → Prop), Q (.int (g i j) s.toks) { s with toks := s.toks + 1 } → wpAny (model X.prog X.w) X.A (f (.int i t) (.int j u)) Q E s) :
  OpR X f (rI0 fun i j => .int (g i j)) := by
 intro pins s σ H x y v u Q I rx ry h
 obtain ⟨i, j, rfl, rfl, q⟩ := h
 obtain ⟨t, rfl⟩ := rx
 obtain ⟨t', rfl⟩ := ry
 exact rule i j t t' s _ _ ⟨.int (g i j), H, I.tok _, ⟨_, rfl⟩, q⟩
theorem opB0 {f : Value → Value → Sem Value} {g : Int → Int → Bool}
  (rule : ∀ (i j : Int) (t u : Tok) (s : Shared) (Q : Value → Shared → Prop) (E : Value → Shared → Prop), Q (.bool (g i j)) s → wpAny (model X.prog X.w) X.A (f (.int i t) (.int j u)) Q E s) :
  OpR X f (rI0 fun i j => .bl (g i j)) := by
 intro pins s σ H x y v u Q I rx ry h
 obtain ⟨i, j, rfl, rfl, q⟩ := h
 obtain ⟨t, rfl⟩ := rx
 obtain ⟨t', rfl⟩ := ry
 exact rule i j t t' s _ _ ⟨.bl (g i j), H, I, rfl, q⟩
def CDiv (i j : Int) : Prop := 0 < j ∧ j < 1073741824
def CDivN (i j : Int) : Prop := j ≠ 0 ∧ j.natAbs < 1073741824
def CPow (i j : Int) : Prop := 0 ≤ j ∧ j ≤ 1000000 ∧ i.natAbs < 2 ^ 64
def CMul (i j : Int) : Prop := (-(2 ^ 64) < i ∧ i < 2 ^ 64) ∨ (-(2 ^ 64) < j ∧ j < 2 ^ 64)
theorem CMul.ok {i j : Int} (h : CMul i j) : IntMulOk i j := by
 rcases h with ⟨h1, h2⟩ | ⟨h1, h2⟩
 ·exact .of_left (intBits_le_64 h1 h2)
 ·exact .of_right (intBits_le_64 h1 h2)
theorem zacw : OpR X (binaryOp .Add) (rI0 fun i j => .int (i + j)) := opI0 fun _ _ _ _ _ _ _ q => add_int q
theorem zaeh : OpR X (binaryOp .Sub) (rI0 fun i j => .int (i - j)) := opI0 fun _ _ _ _ _ _ _ q => sub_int q
theorem zae5 : OpR X (binaryOp .Mult) (rI CMul fun i j => .int (i * j)) := opI fun _ _ _ _ _ _ _ hc q => mul_int q hc.ok
theorem zabk : OpR X (binaryOp .Mod) (rI (fun _ j => 0 < j) fun i j => .int (i % j)) := opI fun i j _ _ _ _ _ hc q => by
 have h1 : (0 : Int) < j := hc
 exact mod_int' (by omega) (by rw [Int.fmod_eq_emod_of_nonneg i (by omega)]; exact q)
theorem unI {f : Value → Sem Value} {g : Int → Int}
  (rule : ∀ (i : Int) (t : Tok) (s : Shared) (Q : Value → Shared → Prop) (E : Value → Shared → Prop), Q (.int (g i) s.toks) { s with toks := s.toks + 1 } → wpAny (model X.prog X.w) X.A (f (.int i t)) Q E s) :
  UnR X f (rU fun i => .int (g i)) := by
 intro pins s σ H x v Q I rx h
 obtain ⟨i, rfl, q⟩ := h
 obtain ⟨t, rfl⟩ := rx
 exact rule i t s _ _ ⟨.int (g i), H, I.tok _, ⟨_, rfl⟩, q⟩
theorem zadi : UnR X (unaryOp .USub) (rU fun i => .int (-i)) := unI fun _ _ _ _ _ q => neg_int q
end
def scal : V → V → Bool
 | .non, .non => true | .non, .int _ => true | .int _, .non => true | .non, .bl _ => true | .bl _, .non => true | .non, .str _ => true | .str _, .non => true
 | .int _, .int _ => true | .bl _, .bl _ => true | .str _, .str _ => true | .byt _, .byt _ => true
 | .int _, .str _ => true | .str _, .int _ => true | .bl _, .str _ => true | .str _, .bl _ => true
 | _, _ => false
def rEq : R2 := fun x y H Q => scal x y = true ∧ Q (.bl (decide (x = y))) H
def rNe : R2 := fun x y H Q => scal x y = true ∧ Q (.bl (!decide (x = y))) H
theorem zai3 {i j : Int} : decide (V.int i = V.int j) = (i == j) := by
 rw [Bool.eq_iff_iff]
 simp
theorem zal2 {i j : Bool} : decide (V.bl i = V.bl j) = (i == j) := by
 rw [Bool.eq_iff_iff]
 simp
theorem zai4 {i j : Str} : decide (V.str i = V.str j) = (i == j) := by
 rw [Bool.eq_iff_iff]
 simp
theorem zai5 {i j : Array UInt8} : decide (V.byt i = V.byt j) = (i.toList == j.toList) := by
 rw [Bool.eq_iff_iff]
 cases i
 cases j
 simp
section
variable {X : Cx} {a b c : Expr} {ta tb tc : TE} {pos : Pos}
theorem zabe {pins : List (Addr × Obj)} {σ : St} {H : Hp} {s : Shared} {Q : VK} {k k' : Bool} (I : Inv X pins σ H s) (q : Q (.bl k) H) (e : k = k') : EP X pins σ Q (.bool k') s := by
 subst e
 exact ⟨.bl k, H, I, rfl, q⟩
theorem zac8 : OpR X (compareOp .Eq) rEq := by
 intro pins s σ H x y v u Q I rx ry h
 obtain ⟨hs, q⟩ := h
 cases x with
 | non =>
  cases rx
  cases y with
  | non => cases ry; exact PySem.EqNone.eq_none_none (zabe I q (by simp))
  | bl j => cases ry; exact PySem.EqNone.eq_none_bool (zabe I q (by simp))
  | int j => obtain ⟨t', rfl⟩ := ry; exact PySem.EqNone.eq_none_int (zabe I q (by simp))
  | str j => obtain ⟨t', rfl⟩ := ry; exact PySem.EqNone.eq_none_str (zabe I q (by simp))
  | _ => exact absurd (show false = true from hs) Bool.false_ne_true
 | bl i =>
  cases rx
  cases y with
  | non => cases ry; exact PySem.EqNone.eq_bool_none (zabe I q (by simp))
  | bl j => cases ry; exact eq_bool (zabe I q zal2)
  | str j => obtain ⟨t', rfl⟩ := ry; exact PySem.EqMixed.eq_bool_str (zabe I q (by simp))
  | _ => exact absurd (show false = true from hs) Bool.false_ne_true
 | int i =>
  obtain ⟨t, rfl⟩ := rx
  cases y with
  | non => cases ry; exact PySem.EqNone.eq_int_none (zabe I q (by simp))
  | int j => obtain ⟨t', rfl⟩ := ry; exact eq_int (zabe I q zai3)
  | str j => obtain ⟨t', rfl⟩ := ry; exact PySem.EqMixed.eq_int_str (zabe I q (by simp))
  | _ => exact absurd (show false = true from hs) Bool.false_ne_true
 | str i =>
  obtain ⟨t, rfl⟩ := rx
  cases y with
  | non => cases ry; exact PySem.EqNone.eq_str_none (zabe I q (by simp))
  | bl j => cases ry; exact PySem.EqMixed.eq_str_bool (zabe I q (by simp))
  | int j => obtain ⟨t', rfl⟩ := ry; exact PySem.EqMixed.eq_str_int (zabe I q (by simp))
  | str j => obtain ⟨t', rfl⟩ := ry; exact eq_str (zabe I q zai4)
  | _ => exact absurd (show false = true from hs) Bool.false_ne_true
 | byt i =>
  obtain ⟨t, rfl⟩ := rx
  cases y with
  | byt j => obtain ⟨t', rfl⟩ := ry; exact PySem.W.eq_bytes (zabe I q zai5)
  | _ => exact absurd (show false = true from hs) Bool.false_ne_true
 | _ => cases y <;> exact absurd (show false = true from hs) Bool.false_ne_true
theorem zade : OpR X (compareOp .NotEq) rNe := by
 intro pins s σ H x y v u Q I rx ry h
 obtain ⟨hs, q⟩ := h
 cases x with
 | non =>
  cases rx
  cases y with
  | non => cases ry; exact PySem.EqNone.ne_none_none (zabe I q (by simp))
  | bl j => cases ry; exact PySem.EqNone.ne_none_bool (zabe I q (by simp))
  | int j => obtain ⟨t', rfl⟩ := ry; exact PySem.EqNone.ne_none_int (zabe I q (by simp))
  | str j => obtain ⟨t', rfl⟩ := ry; exact PySem.EqNone.ne_none_str (zabe I q (by simp))
  | _ => exact absurd (show false = true from hs) Bool.false_ne_true
 | bl i =>
  cases rx
  cases y with
  | non => cases ry; exact PySem.EqNone.ne_bool_none (zabe I q (by simp))
  | bl j => cases ry; exact ne_bool (zabe I q (congrArg not zal2))
  | str j => obtain ⟨t', rfl⟩ := ry; exact PySem.EqMixed.ne_bool_str (zabe I q (by simp))
  | _ => exact absurd (show false = true from hs) Bool.false_ne_true
 | int i =>
  obtain ⟨t, rfl⟩ := rx
  cases y with
  | non => cases ry; exact PySem.EqNone.ne_int_none (zabe I q (by simp))
  | int j => obtain ⟨t', rfl⟩ := ry; exact ne_int (zabe I q (congrArg not zai3))
  | str j => obtain ⟨t', rfl⟩ := ry; exact PySem.EqMixed.ne_int_str (zabe I q (by simp))
  | _ => exact absurd (show false = true from hs) Bool.false_ne_true
 | str i =>
  obtain ⟨t, rfl⟩ := rx
  cases y with
  | non => cases ry; exact PySem.EqNone.ne_str_none (zabe I q (by simp))
  | bl j => cases ry; exact PySem.EqMixed.ne_str_bool (zabe I q (by simp))
  | int j => obtain ⟨t', rfl⟩ := ry; exact PySem.EqMixed.ne_str_int (zabe I q (by simp))
  | str j => obtain ⟨t', rfl⟩ := ry; exact ne_str (zabe I q (congrArg not zai4))
  | _ => exact absurd (show false = true from hs) Bool.false_ne_true
 | byt i =>
  obtain ⟨t, rfl⟩ := rx
  cases y with
  | byt j => obtain ⟨t', rfl⟩ := ry; exact PySem.W.ne_bytes (zabe I q (congrArg not zai5))
  | _ => exact absurd (show false = true from hs) Bool.false_ne_true
 | _ => cases y <;> exact absurd (show false = true from hs) Bool.false_ne_true
theorem zaok : OpR X (compareOp .Lt) (rI0 fun i j => .bl (decide (i < j))) := opB0 fun _ _ _ _ _ _ _ q => lt_int q
theorem zapv : OpR X (compareOp .LtE) (rI0 fun i j => .bl (decide (i ≤ j))) := opB0 fun _ _ _ _ _ _ _ q => le_int q
theorem zaid : OpR X (compareOp .Gt) (rI0 fun i j => .bl (decide (j < i))) := opB0 fun _ _ _ _ _ _ _ q => gt_int q
theorem zaei : OpR X (compareOp .Is) (fun x y H Q => y = .non ∧ Q (.bl (decide (x = .non))) H) := by
 intro pins s σ H x y v u Q I rx ry h
 obtain ⟨rfl, q⟩ := h
 cases ry
 refine is_none_gen (zabe I q ?_)
 cases x <;> first
  | (cases rx; rfl)
  | (obtain ⟨t, rfl⟩ := rx; rfl)
def isObj : HO → Bool
 | .lst _ => true
 | .ins _ _ _ => true
 | _ => false
theorem nomark (b : Expr) {op : CmpOp} (h : op ≠ .In := by decide) (h2 : op ≠ .NotIn := by decide) : behindInMarks op b = false := by
 have e1 : (op == CmpOp.In) = false := by cases op <;> first | rfl | exact absurd rfl h
 have e2 : (op == CmpOp.NotIn) = false := by cases op <;> first | rfl | exact absurd rfl h2
 cases b <;> simp [behindInMarks, e1, e2]
theorem zaml {op : CmpOp} {r : R2} (ho : OpR X (compareOp op) r) (ha : PE X a ta) (hb : PE X b tb) (hm : behindInMarks op b = false) : PE X (.Compare a [op] [b] pos) (tOp r ta tb) := by
 intro pins s σ H Q I h
 exact wpAny_Compare1 (binT ha hb I h fun v u s2 x y H2 I2 rx ry q => ho pins s2 σ H2 x y v u Q I2 rx ry q) hm
def tTest (t : TE) : TT := fun σ H Q => t σ H fun x H' => ∃ k, x = .bl k ∧ Q k H'
theorem zamm {op : CmpOp} {r : R2} (ho : OpR X (compareOp op) r) (ha : PE X a ta) (hb : PE X b tb) (hm : behindInMarks op b = false) : PT X (.Compare a [op] [b] pos) (tTest (tOp r ta tb)) := by
 intro pins s σ H Q I h
 refine wpAny_isTrue_Compare1 (thn (ha pins s σ H _ I h) fun v s1 ⟨x, H1, I1, r1, q1⟩ => thn (hb pins s1 σ H1 _ I1 q1) fun u s2 ⟨y, H2, I2, r2, q2⟩ =>
  thn (ho pins s2 σ H2 x y v u _ I2 r1 r2 q2) fun c s3 ⟨z, H3, I3, r3, k, e, q3⟩ => ?_) hm
 subst e
 cases r3
 exact wpAny_truthy_bool ⟨H3, I3, q3⟩
def tChain (r r' : R2) (ta tb tc : TE) : TE := fun σ H Q => ta σ H fun x H1 => tb σ H1 fun y H2 => r x y H2 fun z H3 => ∃ k, z = .bl k ∧
 (if k = true then tc σ H3 fun w' H4 => r' y w' H4 Q else Q (.bl false) H3)
theorem zaku {op op' : CmpOp} {r r' : R2} (ho : OpR X (compareOp op) r) (ho' : OpR X (compareOp op') r') (ha : PE X a ta) (hb : PE X b tb) (hc : PE X c tc)
  (hm : lastMarks [op, op'] [b, c] = false := by with_unfolding_all rfl) : PE X (.Compare a [op, op'] [b, c] pos) (tChain r r' ta tb tc) := by
 intro pins s σ H Q I h
 refine Compare_chain (thn (ha pins s σ H _ I h) fun v s1 ⟨x, H1, I1, r1, q1⟩ => chain_link (thn (hb pins s1 σ H1 _ I1 q1) fun u s2 ⟨y, H2, I2, r2, q2⟩ =>
  thn (ho pins s2 σ H2 x y v u _ I2 r1 r2 q2) fun d s3 ⟨z, H3, I3, r3, k, e, q3⟩ => ?_)) hm
 subst e
 cases r3
 refine wpAny_truthy_bool ?_
 cases k with
 | false => exact ite_ff ⟨.bl false, H3, I3, rfl, q3⟩
 | true => exact ite_tt (chain_last (thn (hc pins s3 σ H3 _ I3 q3) fun w' s4 ⟨z', H4, I4, r4, q4⟩ => ho' pins s4 σ H4 y z' u w' Q I4 r2 r4 q4))
def TruV (K : PySem.W.Frag) (x : V) (H : Hp) (k : Bool) : Prop :=
 match x with
 | .non => k = false
 | .bl b => k = b
 | .int i => k = (i != 0)
 | .str y => y.length ≤ sizeLine ∧ k = ((y.length : Int) != 0)
 | .byt y => y.size ≤ sizeLine ∧ k = ((y.size : Int) != 0)
 | .ref p => (∃ xs, SqL K H p xs ∧ k = !xs.isEmpty) ∨ (∃ xs, SqT K H p xs ∧ k = !xs.isEmpty) ∨ ∃ kvs, H p = some (.dK kvs) ∧ k = !kvs.isEmpty
 | _ => False
theorem line63 : (sizeLine : Nat) < 2 ^ 63 := by rw [sizeLine_eq]; decide
def PlainIxT (b : Expr) : Prop := ∀ o i, subscripted b false o i = operate [o, i] (getItem o i)
theorem vals1 {x : V} {us : List Value} (r : Vals [x] us) : ∃ u, us = [u] ∧ RelV x u := by
 cases r with
 | cons r1 r2 => cases r2; exact ⟨_, rfl, r1⟩
theorem vals2 {x y : V} {us : List Value} (r : Vals [x, y] us) : ∃ u w', us = [u, w'] ∧ RelV x u ∧ RelV y w' := by
 cases r with
 | cons r1 r2 =>
  cases r2 with
  | cons r3 r4 => cases r4; exact ⟨_, _, rfl, r1, r3⟩
theorem zai6 (hc : X.calm = true) : CallR X (.builtin "max") (fun xs H Q => ∃ i j, xs = [.int i, .int j] ∧ Q (.int (if j > i then j else i)) H) := by
 intro pins s σ H xs us Q I r h
 obtain ⟨i, j, rfl, q⟩ := h
 obtain ⟨u, w', rfl, ⟨t, rfl⟩, ⟨t', rfl⟩⟩ := vals2 r
 refine max_two_ints (I.ok.hd hc) fun h' tk k => ⟨_, H, I.kept k, ?_, q⟩
 by_cases hj : j > i
 ·rw [if_pos hj, if_pos hj]; exact ⟨_, rfl⟩
 ·rw [if_neg hj, if_neg hj]; exact ⟨_, rfl⟩
theorem zai7 (hc : X.calm = true) : CallR X (.builtin "min") (fun xs H Q => ∃ i j, xs = [.int i, .int j] ∧ Q (.int (if j < i then j else i)) H) := by
 intro pins s σ H xs us Q I r h
 obtain ⟨i, j, rfl, q⟩ := h
 obtain ⟨u, w', rfl, ⟨t, rfl⟩, ⟨t', rfl⟩⟩ := vals2 r
 refine min_two_ints (I.ok.hd hc) fun h' tk k => ⟨_, H, I.kept k, ?_, q⟩
 by_cases hj : j < i
 ·rw [if_pos hj, if_pos hj]; exact ⟨_, rfl⟩
 ·rw [if_neg hj, if_neg hj]; exact ⟨_, rfl⟩
def LenV (K : PySem.W.Frag) (x : V) (H : Hp) (n : Nat) : Prop :=
 match x with
 | .str y => y.length ≤ sizeLine ∧ n = y.length
 | .byt y => y.size ≤ sizeLine ∧ n = y.size
 | .ref p => (∃ xs, SqL K H p xs ∧ n = xs.length) ∨ ∃ xs, SqT K H p xs ∧ n = xs.length
 | _ => False
end
structure ObjM (h : Heap) (x dx C : Addr) (mA : Str → Option Value) : Prop where
 obj : h.get? x = some (PySem.W.instObj C dx)
 ns : h.Ns1 dx mA
 ne : dx ≠ x
theorem zagc {h : Heap} {dx : Addr} {mA : Str → Option Value} (n : h.Ns1 dx mA) : ∃ od, h.get? dx = some od ∧ ∀ name, PySem.W.lookIn name od = some (mA name) := by
 obtain ⟨o, es, ep, ho, hd, hk, _, hm⟩ := n
 refine ⟨o, ho, fun name => ?_⟩
 have e := hm name
 unfold nsFind findBy at e
 rw [← Array.find?_toList] at e
 unfold PySem.W.lookIn
 rw [hd]
 dsimp only
 split
 ·rename_i y q
  rw [q] at e
  exact congrArg some e
 ·rename_i q
  rw [q] at e
  have a : es.toList.any (·.refKey) = false := by
   rw [List.any_eq_false]
   intro y hy
   obtain ⟨z, t, hkey⟩ := hk y (Array.mem_toList_iff.mp hy)
   simp [DictEntry.refKey, hkey]
  have a' : ¬ es.toList.any (·.refKey) = true := by rw [a]; exact Bool.false_ne_true
  rw [if_neg a']
  exact congrArg some e
theorem ObjM.look {h : Heap} {x dx C : Addr} {mA : Str → Option Value} (I : ObjM h x dx C mA) : ∃ od, PySem.W.InstAt h x (PySem.W.instObj C dx) C (some od) ∧ ∀ name, PySem.W.lookIn name od = some (mA name) :=
 let ⟨od, ho, hl⟩ := zagc I.ns
 ⟨od, ⟨I.obj, rfl, rfl, ho⟩, hl⟩
section
variable {prog : Program} {w : World} {A : Around} {E : Value → Shared → Prop} {s : Shared} {K : PySem.W.Frag} {x dx C f : Addr} {mA : Str → Option Value} {name : Str} {v : Value}
theorem zamn {expr : Bool} {Q : Value → Shared → Prop} (X : K.In s.heap) (I : ObjM s.heap x dx C mA) (hg : PySem.W.plainGet K C name = true) (hh : PySem.W.hasDictIn K C = true)
  (ha : PySem.W.findIn K (.ref C) name = some none) (hv : mA name = some v) (hv' : PySem.W.handedIn v = true) (h : Q v { s with toks := s.toks + 1 }) :
  wpAny (model prog w) A (getAttr (.ref x) name expr) Q E s := by
 obtain ⟨od, J, hl⟩ := I.look
 exact PySem.W.get_value X J (PySem.W.plainGet_of hg).1 (PySem.W.findObj_own hh ha rfl (by rw [hl, hv])) hv' h
theorem zamo {ns : List Str} {Q : Unit → Shared → Prop} (X : K.In s.heap) (I : ObjM s.heap x dx C mA)
  (hs : PySem.W.findIn K (.ref C) "__setattr__" = some (some (.builtin "object.__setattr__"))) (hp : PySem.W.plainOver K C = true) (ht : PySem.W.takerIn K C name = some none) (hh : PySem.W.hasDictIn K C = true)
  (hw : PySem.Within mA ns) (hsz : ns.length ≤ sizeLine)
  (h : ∀ h', ObjM h' x dx C (fun y => if y = name then some v else mA y) → Heap.SameBut dx s.heap h' → Q () { s with heap := h', toks := s.toks + 2 }) :
  wpAny (model prog w) A (setAttr (.ref x) name v) Q E s := by
 obtain ⟨od, J, hl⟩ := I.look
 refine PySem.W.set_plain X J hs (PySem.W.osa_open (s := { s with toks := s.toks + 1 }) (r := none) X J hp ht fun b => ?_)
 obtain ⟨cd, hc, hd'⟩ := PySem.W.any_some hh
 have hx : s.heap.get? x = some ⟨.ref C, some dx, .plain, #[]⟩ := I.obj
 refine wpAny_bind (wpAny_pure (wpAny_bind (wpAny_bind (wpAny_loadPart hx (wpAny_bind (PySem.W.Looks.here (s := { s with toks := s.toks + 1 }) (PySem.W.looks_clsIn X hc) ?_))))))
 rw [hd']
 refine wpAny_pure (a := some dx) (wpAny_bind (wpAny_pure (wpAny_bind ?_)))
 refine wpAny_nsSet1 (s := { s with toks := s.toks + 1 }) I.ns fun h' hn2 hs2 => ?_
 obtain ⟨oD, esD, epD, hoD, hdD, hcD⟩ := hn2.count (PySem.Within.cons name v hw)
 refine wpAny_bind (wpAny_lookBehind hoD (by rw [hdD]; exact pastItsLine_dict (Nat.le_trans hcD (by rw [List.length_cons]; omega))) ?_)
 exact wpAny_pure (h _ ⟨(hs2.2 _ (Ne.symm I.ne)).trans I.obj, hn2, I.ne⟩ hs2)
theorem zahs {R : Result → Shared → Prop} {vs : List Value} {kw : List (Str × Value)} (X : K.In s.heap) (hm : PySem.W.makesIn K C = true)
  (hi : PySem.W.findIn K (.ref C) "__init__" = some (some (.ref f))) (hf : PySem.W.typeIn K (.ref f) = some (.type "function"))
  (h : codeAny (model prog w) (A.under (.builtin "type.__call__" ⟨.ref C :: vs, kw⟩)) (.call (.ref f) ⟨.ref (s.heap.objs.size + 1) :: vs, kw⟩) (PySem.W.InitBack (s.heap.objs.size + 1) R)
   { s with heap := (s.heap.push PySem.W.emptyDict).push (PySem.W.instObj C s.heap.objs.size) }) :
  codeAny (model prog w) A (.call (.ref C) ⟨vs, kw⟩) R s := by
 obtain ⟨hh, g, d, t, os⟩ := s
 exact PySem.W.make_core (PySem.W.makes_of X hm) (PySem.W.looks_findIn X hi) (fun self => PySem.W.bind_fn X self hf) (.inl rfl) h
end
def putF (f : Str) (v : V) : List (Str × V) → List (Str × V)
 | [] => [(f, v)]
 | (g, x) :: r => if g = f then (g, v) :: r else (g, x) :: putF f v r
theorem zaej (f g : Str) (v : V) : ∀ fs : List (Str × V), (putF f v fs).lookup g = if g = f then some v else fs.lookup g
 | [] => by
  show List.lookup g [(f, v)] = _
  by_cases h : g = f
  ·have hb : (g == f) = true := beq_iff_eq.mpr h
   simp only [List.lookup, hb, if_pos h]
  ·have hb : (g == f) = false := beq_eq_false_iff_ne.mpr h
   simp only [List.lookup, hb, if_neg h]
 | (k, x) :: r => by
  have ih := zaej f g v r
  rw [show putF f v ((k, x) :: r) = (if k = f then (k, v) :: r else (k, x) :: putF f v r) from rfl]
  by_cases hk : k = f
  ·rw [if_pos hk]
   by_cases h : g = k
   ·have hb : (g == k) = true := beq_iff_eq.mpr h
    simp only [List.lookup, hb, if_pos (h.trans hk)]
   ·have hb : (g == k) = false := beq_eq_false_iff_ne.mpr h
    simp only [List.lookup, hb, if_neg (fun e : g = f => h (e.trans hk.symm))]
  ·rw [if_neg hk]
   by_cases h : g = k
   ·have hb : (g == k) = true := beq_iff_eq.mpr h
    simp only [List.lookup, hb, if_neg (fun e : g = f => hk (h.symm.trans e))]
   ·have hb : (g == k) = false := beq_eq_false_iff_ne.mpr h
    simp only [List.lookup, hb]
    exact ih
theorem zaek (f : Str) (v : V) : ∀ fs : List (Str × V), f ∈ (putF f v fs).map (·.1) ∧ ∀ g, g ∈ fs.map (·.1) → g ∈ (putF f v fs).map (·.1)
 | [] => ⟨by simp [putF], fun g h => by simp at h⟩
 | (k, x) :: r => by
  obtain ⟨i1, i2⟩ := zaek f v r
  rw [show putF f v ((k, x) :: r) = (if k = f then (k, v) :: r else (k, x) :: putF f v r) from rfl]
  by_cases hk : k = f
  ·rw [if_pos hk]
   subst hk
   exact ⟨by simp, fun g h => by simpa using h⟩
  ·rw [if_neg hk]
   refine ⟨?_, fun g h => ?_⟩
   ·rw [List.map_cons]
    exact List.mem_cons_of_mem _ i1
   ·rw [List.map_cons] at h ⊢
    rcases List.mem_cons.mp h with e | e
    ·exact List.mem_cons.mpr (.inl e)
    ·exact List.mem_cons_of_mem _ (i2 g e)
theorem zael (f : Str) (v : V) : ∀ fs : List (Str × V), (putF f v fs).length ≤ fs.length + 1
 | [] => by simp [putF]
 | (k, x) :: r => by
  have ih := zael f v r
  rw [show putF f v ((k, x) :: r) = (if k = f then (k, v) :: r else (k, x) :: putF f v r) from rfl]
  by_cases hk : k = f
  ·rw [if_pos hk, List.length_cons, List.length_cons]; omega
  ·rw [if_neg hk, List.length_cons, List.length_cons]; omega
theorem RelO.some_of {v : V} {o : Option Value} (r : RelO (some v) o) : ∃ u, o = some u ∧ RelV v u := by
 cases o with
 | none => exact (show False from r).elim
 | some u => exact ⟨u, rfl, r⟩
theorem zagd {v : V} {u : Value} (r : RelV v u) : PySem.W.handedIn u = true := by
 cases v with
 | non => cases (show u = Value.none from r); rfl
 | bl b => cases (show u = Value.bool b from r); rfl
 | int i => obtain ⟨t, e⟩ := (show ∃ t, u = Value.int i t from r); cases e; rfl
 | str x => obtain ⟨t, e⟩ := (show ∃ t, u = Value.str x t from r); cases e; rfl
 | byt b => obtain ⟨t, e⟩ := (show ∃ t, u = Value.bytes b t from r); cases e; rfl
 | flt b => obtain ⟨t, e⟩ := (show ∃ t, u = Value.float b t from r); cases e; rfl
 | ref a => cases (show u = Value.ref a from r); rfl
 | ty n => cases (show u = Value.type n from r); rfl
section
variable {P : Program} {w : World} {H H' : Hp} {h h' : Heap} {a C dx : Addr} {fs fs' : List (Str × V)}
theorem zagx (hok : HOk P w H h) (e : H a = some (.ins C dx fs)) : ∃ mA, ObjM h a dx C mA ∧ (∀ f, RelO (fs.lookup f) (mA f)) ∧ PySem.Within mA (fs.map (·.1)) ∧ fs.length ≤ 1000 ∧ H dx = some (.own a) := by
 obtain ⟨d, z, ne, ob, mA, n, r, q⟩ := (show ObjOk P w H h a (.ins C dx fs) from hok a _ e)
 exact ⟨mA, ⟨ob, n, ne⟩, r, q, z, d⟩
end
structure Cls (K : PySem.W.Frag) (C : Addr) : Prop where
 pg : PySem.W.plainGet K C Str.empty = true
 hd : PySem.W.hasDictIn K C = true
 po : PySem.W.plainOver K C = true
 sa : PySem.W.findIn K (.ref C) "__setattr__" = some (some (.builtin "object.__setattr__"))
theorem Cls.get {K : PySem.W.Frag} {C : Addr} (c : Cls K C) (f : Str) : PySem.W.plainGet K C f = true := c.pg
def NoAttr (K : PySem.W.Frag) (C : Addr) (f : Str) : Prop := PySem.W.findIn K (.ref C) f = some none
theorem NoAttr.taker {K : PySem.W.Frag} {C : Addr} {f : Str} (n : NoAttr K C f) : PySem.W.takerIn K C f = some none := by
 unfold PySem.W.takerIn
 rw [show PySem.W.findIn K (.ref C) f = some none from n]
 rfl
structure Con (K : PySem.W.Frag) (C : Addr) (f : Str) (v : V) (u : Value) : Prop where
 at_ : PySem.W.findIn K (.ref C) f = some (some u)
 rel : RelV v u
 get : PySem.W.specialIn K u "__get__" = some none
 cp : PySem.W.copiedNames.contains f = false
structure Meth (K : PySem.W.Frag) (C : Addr) (m : Str) (f : Addr) : Prop where
 at_ : PySem.W.findIn K (.ref C) m = some (some (.ref f))
 fn : PySem.W.isFn K (.ref f) = true
 kp : PySem.W.keepIn K (.ref f) = true
section
variable {X : Cx} {pins : List (Addr × Obj)} {σ : St} {H : Hp} {s : Shared} {a C dx : Addr} {fs : List (Str × V)} {f : Str} {v : V} {A : Around} {E : Value → Shared → Prop}
theorem zaie {b : Bool} {Q : Value → Shared → Prop} (I : Inv X pins σ H s) (e : H a = some (.ins C dx fs)) (c : Cls X.K C) (n : NoAttr X.K C f) (l : fs.lookup f = some v)
  (h : ∀ u s', Inv X pins σ H s' → RelV v u → Q u s') : wpAny (model X.prog X.w) A (getAttr (.ref a) f b) Q E s := by
 obtain ⟨mA, O, r, _, _, _⟩ := zagx I.hok e
 obtain ⟨u, hu, ru⟩ := RelO.some_of (v := v) (o := mA f) (by rw [← l]; exact r f)
 exact zamn I.kIn O (c.get f) c.hd n hu (zagd ru) (h u _ (I.tok _) ru)
theorem zaif {y : V} {u : Value} {Q : Unit → Shared → Prop} (I : Inv X pins σ H s) (e : H a = some (.ins C dx fs)) (c : Cls X.K C) (n : NoAttr X.K C f) (hl : fs.length < 1000) (ry : RelV y u)
  (h : ∀ s', Inv X pins σ (upd H a (.ins C dx (putF f y fs))) s' → Q () s') : wpAny (model X.prog X.w) A (setAttr (.ref a) f u) Q E s := by
 obtain ⟨mA, O, r, wi, _, ho⟩ := zagx I.hok e
 have hz : (fs.map (·.1)).length ≤ sizeLine := by rw [List.length_map, sizeLine_eq]; omega
 refine zamo I.kIn O c.sa c.po n.taker c.hd wi hz fun h' O' sb => h _ ?_
 have hd : ∃ o, h'.get? dx = some o := let ⟨o, _, _, e', _⟩ := O'.ns; ⟨o, e'⟩
 refine I.write (x := a) (e := dx) (by rw [e]; exact True.intro) (.inr ho) (fun b q hb z => (sb.2 b hb).trans z) hd ?_
 refine ⟨by rw [zaax O.ne]; exact ho, ?_, O.ne, O'.obj, _, O'.ns, fun g => ?_, fun g hg => ?_⟩
 ·have := zael f y fs; omega
 ·show RelO ((putF f y fs).lookup g) (if g = f then some u else mA g)
  rw [zaej]
  by_cases q : g = f
  ·rw [if_pos q, if_pos q]; exact ry
  ·rw [if_neg q, if_neg q]; exact r g
 ·by_cases q : g = f
  ·rw [q]; exact (zaek f y fs).1
  ·refine (zaek f y fs).2 g (wi g fun z => hg ?_)
   show (if g = f then some u else mA g) = none
   rw [if_neg q]; exact z
theorem Inv.made (I : Inv X pins σ H s) : Inv X pins σ (upd (upd H s.heap.objs.size (.own (s.heap.objs.size + 1))) (s.heap.objs.size + 1) (.ins C s.heap.objs.size []))
  { s with heap := (s.heap.push PySem.W.emptyDict).push (PySem.W.instObj C s.heap.objs.size) } := by
 have e1 : (s.heap.push PySem.W.emptyDict).get? s.heap.objs.size = some PySem.W.emptyDict := Heap.get?_push_size s.heap rfl
 have e2 : ((s.heap.push PySem.W.emptyDict).push (PySem.W.instObj C s.heap.objs.size)).get? (s.heap.objs.size + 1) = some (PySem.W.instObj C s.heap.objs.size) := by
  have := Heap.get?_push_size (s.heap.push PySem.W.emptyDict) (o := PySem.W.instObj C s.heap.objs.size) rfl
  rwa [Heap.size_push] at this
 have e3 : (s.heap.push PySem.W.emptyDict).Ns s.heap.objs.size (fun _ => none) := ⟨PySem.W.emptyDict, #[], _, e1, rfl, (fun e he => absurd he (by simp)), fun _ => rfl⟩
 have I1 := I.laid (a := s.heap.objs.size) (o := .own (s.heap.objs.size + 1)) (h' := s.heap.push PySem.W.emptyDict) (t' := s.toks) (fun b u q => Heap.get?_push_of_some _ q) (Nat.le_refl _) ⟨_, e1⟩
 refine I1.laid (a := s.heap.objs.size + 1) (o := .ins C s.heap.objs.size []) (t' := s.toks) (fun b u q => Heap.get?_push_of_some _ q) (Nat.le_of_eq (Heap.size_push _ _)) ?_
 have ne : s.heap.objs.size ≠ s.heap.objs.size + 1 := Nat.ne_of_lt (Nat.lt_succ_self _)
 refine ⟨by rw [zaax ne, zaak], Nat.zero_le _, ne, e2, fun _ => none, (Heap.Ns1.of_empty e3).at fun o q => Heap.get?_push_of_some _ q, fun _ => True.intro, fun y hy => absurd rfl hy⟩
theorem zai8 {prog : Program} {w : World} {env : Env} {e : Expr} {f : Str} {pos : Pos} {s : Shared} {Q : Value → Shared → Prop} (hb : attributeBase e f env (eval e env) = eval e env)
  (h : wpAny (model prog w) A (eval e env) (fun o s₁ => wpAny (model prog w) A (getAttr o f true) Q E s₁) E s) : wpAny (model prog w) A (eval (.Attribute e f pos) env) Q E s :=
 Attribute_any_ h (by rw [arm_eval_Attribute, hb])
end
def tFld (K : PySem.W.Frag) (ta : TE) (f : Str) : TE := fun σ H Q => ta σ H fun x H1 => ∃ a C dx fs v, x = .ref a ∧ H1 a = some (.ins C dx fs) ∧ Cls K C ∧ NoAttr K C f ∧ fs.lookup f = some v ∧ Q v H1
def tCon (K : PySem.W.Frag) (ta : TE) (f : Str) : TE := fun σ H Q => ta σ H fun x H1 => ∃ a C dx fs v u, x = .ref a ∧ H1 a = some (.ins C dx fs) ∧ Cls K C ∧ Con K C f v u ∧ fs.lookup f = none ∧ Q v H1
def sFld (K : PySem.W.Frag) (ta tv : TE) (f : Str) : TS := fun D σ H => tv σ H fun y H1 => ta σ H1 fun x H2 => ∃ a C dx fs, x = .ref a ∧ H2 a = some (.ins C dx fs) ∧ Cls K C ∧ NoAttr K C f ∧ fs.length < 1000 ∧
 D.nx σ (upd H2 a (.ins C dx (putF f y fs)))
def InOp (X : Cx) (op : Operator) (rd : V → V → Hp → VK → Prop) : Prop :=
 ∀ (pins : List (Addr × Obj)) (s : Shared) (σ : St) (H : Hp) (x y : V) (u v : Value) (Q : VK), Inv X pins σ H s → RelV x u → RelV y v → rd x y H Q → wpAny (model X.prog X.w) X.A (inplaceOp op u v) (EP X pins σ Q) X.xe s
def sFldAug (K : PySem.W.Frag) (ta tv : TE) (rd : V → V → Hp → VK → Prop) (f : Str) : TS := fun D σ H => ta σ H fun x H1 => ∃ a C dx fs v, x = .ref a ∧ H1 a = some (.ins C dx fs) ∧ Cls K C ∧ NoAttr K C f ∧ fs.lookup f = some v ∧
 tv σ H1 fun y H2 => rd v y H2 fun z H3 => ∃ dx' fs', H3 a = some (.ins C dx' fs') ∧ fs'.length < 1000 ∧ D.nx σ (upd H3 a (.ins C dx' (putF f z fs')))
section
variable {X : Cx} {o e value : Expr} {f : Str} {pos pos' tpos : Pos} {ta tv : TE}
theorem zaol (he : PE X e ta) (hb : attributeBase e f X.env (eval e X.env) = eval e X.env) : PE X (.Attribute e f pos) (tFld X.K ta f) := by
 intro pins s σ H Q I h
 refine zai8 hb (thn (he pins s σ H _ I h) fun u s1 ⟨x, H1, I1, rx, a, C, dx, fs, v, ex, ea, c, n, l, q⟩ => ?_)
 subst ex
 obtain rfl : u = Value.ref a := rx
 exact zaie I1 ea c n l fun u' s2 I2 ru => ⟨v, H1, I2, ru, q⟩
theorem zaom (ha : PE X o ta) (hv : PE X value tv) (hs : swapsWith value (some (.Attribute o f pos')) pos.line X.env = pure false) : PS X (.Assign [.Attribute o f pos'] value pos) (sFld X.K ta tv f) := by
 intro pins s σ H D I h
 refine plainObj_wpAny_Assign_Attribute (thn (hv pins s σ H _ I h) fun u s1 ⟨y, H1, I1, ry, q⟩ => thn (ha pins s1 σ H1 _ I1 q) fun ov s2 ⟨x, H2, I2, rx, a, C, dx, fs, ex, ea, c, n, l, q2⟩ => ?_) hs
 subst ex
 obtain rfl : ov = Value.ref a := rx
 exact zaif I2 ea c n l ry fun s3 I3 => ⟨σ, _, I3, q2⟩
def rAdd : V → V → Hp → VK → Prop := fun x y H Q => ∃ i j, x = .int i ∧ y = .int j ∧ Q (.int (i + j)) H
def rSub : V → V → Hp → VK → Prop := fun x y H Q => ∃ i j, x = .int i ∧ y = .int j ∧ Q (.int (i - j)) H
end
section
variable {X : Cx} {pins : List (Addr × Obj)} {σ : St} {H : Hp} {s : Shared} {A : Around} {E : Value → Shared → Prop} {Q : Value → Shared → Prop} {c : Value} {b : Bool}
inductive TyOf (K : PySem.W.Frag) (H : Hp) : V → Value → Prop where
 | non : TyOf K H .non (.type "NoneType")
 | bl (x : Bool) : TyOf K H (.bl x) (.type "bool")
 | int (i : Int) : TyOf K H (.int i) (.type "int")
 | str (x : Str) : TyOf K H (.str x) (.type "str")
 | flt (x : UInt64) : TyOf K H (.flt x) (.type "float")
 | lst {a : Addr} {xs : List V} (e : H a = some (.lst xs)) : TyOf K H (.ref a) (.type "list")
 | frz {a : Addr} {o : Obj} {xs : List V} (e : H a = some (.frz o (.lst xs))) : TyOf K H (.ref a) (.type "list")
 | tup {a : Addr} {xs : List V} (e : H a = some (.tup xs)) : TyOf K H (.ref a) (.type "tuple")
 | dK {a : Addr} {kvs : List (Key × V)} (e : H a = some (.dK kvs)) : TyOf K H (.ref a) (.type "dict")
 | dT {a : Addr} {kvs : List (List Key × V)} (e : H a = some (.dT kvs)) : TyOf K H (.ref a) (.type "dict")
 | ins {a C dx : Addr} {fs : List (Str × V)} (e : H a = some (.ins C dx fs)) (cl : Cls K C) (ha : PySem.W.findIn K (.ref C) "__class__" = some (some (.builtin "object.__class__")))
   (hn : PySem.W.specialIn K (.builtin "object.__class__") "__get__" = some (some (.builtin "getset_descriptor.__get__"))) (htk : PySem.W.takesIn K (.builtin "object.__class__") = some true)
   (hm : PySem.W.mroIn K C (.type "object") = some true) : TyOf K H (.ref a) (.ref C)
theorem zai9 {x : V} {u t : Value} (I : Inv X pins σ H s) (rx : RelV x u) (ty : TyOf X.K H x t) (e : PySem.W.kitOne X.K t c = some b) (h : ∀ tk, Q (.bool b) { s with toks := tk }) :
  wpAny (model X.prog X.w) A (call (.builtin "isinstance") [u, c]) Q E s := by
 cases ty with
 | non => cases (show u = Value.none from rx); exact PySem.W.kia_one PySem.W.kitx_none I.kIn True.intro e (fun z => nomatch z) h
 | bl y => cases (show u = Value.bool y from rx); exact PySem.W.kia_one PySem.W.kitx_bool I.kIn True.intro e (fun z => nomatch z) h
 | int i => obtain ⟨t, q⟩ := (show ∃ t, u = Value.int i t from rx); cases q; exact PySem.W.kia_one PySem.W.kitx_int I.kIn True.intro e (fun z => nomatch z) h
 | str y => obtain ⟨t, q⟩ := (show ∃ t, u = Value.str y t from rx); cases q; exact PySem.W.kia_one PySem.W.kitx_str I.kIn True.intro e (fun z => nomatch z) h
 | flt y => obtain ⟨t, q⟩ := (show ∃ t, u = Value.float y t from rx); cases q; exact PySem.W.kia_one PySem.W.kitx_float I.kIn True.intro e (fun z => nomatch z) h
 | @lst a xs ea =>
  cases (show u = Value.ref a from rx)
  obtain ⟨_, _, n, _, h1⟩ := (show ObjOk X.prog X.w H s.heap a (.lst xs) from I.hok a _ ea)
  exact PySem.W.kia_one PySem.W.kitx_list I.kIn ⟨_, h1, rfl⟩ e (fun z => nomatch z) h
 | @frz a ob xs ea =>
  cases (show u = Value.ref a from rx)
  obtain ⟨_, _, _, n, _, h1⟩ := (show ObjOk X.prog X.w H s.heap a (.frz ob (.lst xs)) from I.hok a _ ea)
  exact PySem.W.kia_one PySem.W.kitx_list I.kIn ⟨_, h1, rfl⟩ e (fun z => nomatch z) h
 | @tup a xs ea =>
  cases (show u = Value.ref a from rx)
  obtain ⟨_, _, _, p⟩ := (show ObjOk X.prog X.w H s.heap a (.tup xs) from I.hok a _ ea)
  obtain ⟨o, h1, h2, _⟩ := p
  exact PySem.W.kia_one PySem.W.kitx_tuple I.kIn ⟨o, h1, h2⟩ e (fun z => nomatch z) h
 | @dK a kvs ea =>
  cases (show u = Value.ref a from rx)
  obtain ⟨_, _, vs, _, p⟩ := (show ObjOk X.prog X.w H s.heap a (.dK kvs) from I.hok a _ ea)
  obtain ⟨o, es, ep, h1, h2, _⟩ := p
  exact PySem.W.kia_one PySem.W.kitx_dict I.kIn ⟨o, h1, h2.1⟩ e (fun z => nomatch z) h
 | @dT a kvs ea =>
  cases (show u = Value.ref a from rx)
  obtain ⟨_, _, xs, _, o, es, ep, h1, h2, _⟩ := (show ObjOk X.prog X.w H s.heap a (.dT kvs) from I.hok a _ ea)
  exact PySem.W.kia_one PySem.W.kitx_dict I.kIn ⟨o, h1, h2.1⟩ e (fun z => nomatch z) h
 | @ins a C dx fs ea cl ha hn htk hm =>
  cases (show u = Value.ref a from rx)
  obtain ⟨mA, O, _⟩ := zagx I.hok ea
  obtain ⟨od, J, _⟩ := O.look
  exact PySem.W.kia_one (PySem.W.kitx_own (cl.get _) cl.hd ha hn htk hm) I.kIn J e (fun z => nomatch z) h
end
structure Room (k : Nat) (A : Around) : Prop where
 hd : A.handled = none
 dp : A.depth + 3 * k + 5 < recursionLimit
 un : A.units + 16 * k + 200 < cLine
theorem Room.mono {j k : Nat} {A : Around} (r : Room k A) (h : j ≤ k) : Room j A := ⟨r.hd, by have := r.dp; omega, by have := r.un; omega⟩
theorem Room.deeper {k : Nat} {A : Around} (r : Room (k + 1) A) (env : Env) : Room k (A.deeper env) :=
 ⟨r.hd, by have := r.dp; show A.depth + 1 + 3 * k + 5 < _; omega, by have := r.un; show A.units + 3 + 16 * k + 200 < _; omega⟩
theorem zaig {A : Around} {C : Addr} {us : List Value} {kw : List (Str × Value)} : (A.under (.builtin "type.__call__" ⟨.ref C :: us, kw⟩)).depth = A.depth + 1 := by
 first | rfl | simp [Around.under, Code.weight, Code.isCreation, Code.isGuard, Code.isCaller, Code.frames, Code.isFrame, guardIds]
theorem zaih {A : Around} {C : Addr} {us : List Value} {kw : List (Str × Value)} : (A.under (.builtin "type.__call__" ⟨.ref C :: us, kw⟩)).units = A.units + 1 := by
 first | rfl | simp [Around.under, Code.cUnits, Code.frames, Code.isFrame]
theorem Room.make {k : Nat} {A : Around} (r : Room (k + 1) A) (C : Addr) (us : List Value) (kw : List (Str × Value)) : Room k (A.under (.builtin "type.__call__" ⟨.ref C :: us, kw⟩)) :=
 ⟨r.hd, by have := r.dp; rw [zaig]; omega, by have := r.un; rw [zaih]; omega⟩
theorem Room.depth {k : Nat} {A : Around} (r : Room k A) : A.depth < recursionLimit := by have := r.dp; omega
theorem Room.units {k : Nat} {A : Around} (r : Room k A) : A.units + 64 < cLine := by have := r.un; omega
def tNil : TA := fun _ H Q => Q [] H
def tCons (ta : TE) (tr : TA) : TA := fun σ H Q => ta σ H fun x H1 => tr σ H1 fun xs H2 => Q (x :: xs) H2
section
variable {X : Cx} {e : Expr} {es : List Expr} {te : TE} {t : TA} {pos : Pos}
theorem zaon : PA X [] tNil := fun _ _ _ _ H Q I h => Calls.spliced_nil ⟨[], H, I, .nil, h⟩
theorem zamp (ha : PE X e te) (hr : PA X es t) (hs : starEach (e :: es) X.env = (false, eval e X.env) :: starEach es X.env := by rfl) : PA X (e :: es) (tCons te t) := by
 intro pos pins s σ H Q I h
 rw [hs]
 show wpAny _ _ (spliced ((false, eval e X.env) :: backTo pos (starEach es X.env))) _ _ s
 refine Calls.spliced_cons (thn (ha pins s σ H _ I h) fun u s1 ⟨x, H1, I1, r1, q1⟩ => ?_)
 exact thn (hr pos pins s1 σ H1 _ I1 q1) fun us s2 ⟨xs, H2, I2, r2, q2⟩ => ⟨x :: xs, H2, I2, .cons r1 r2, q2⟩
def tTup (t : TA) : TE := fun σ H Q => t σ H fun xs H1 => xs.length ≤ sizeLine ∧ ∀ p, H1 p = none → Q (.ref p) (upd H1 p (.tup xs))
def tLst (t : TA) : TE := fun σ H Q => t σ H fun xs H1 => xs.length ≤ sizeLine ∧ ∀ p, H1 p = none → Q (.ref p) (upd H1 p (.lst xs))
theorem zaoo {x1} (h : PA X es t) : PE X (.Tuple es x1 pos) (tTup t) := by
 intro pins s σ H Q I hq
 refine wpAny_Tuple_spliced (thn (h pos pins s σ H _ I hq) fun us s1 ⟨xs, H1, I1, r, z, q⟩ => ⟨by rw [← r.length]; exact z, ?_⟩)
 have hf : H1 s1.heap.objs.size = none := I1.hok.fresh (Nat.le_refl _)
 refine ⟨.ref s1.heap.objs.size, upd H1 s1.heap.objs.size (.tup xs), I1.laid (t' := s1.toks) (fun b u e => Heap.get?_push_of_some _ e) (Nat.le_refl _) ?_, rfl, q _ hf⟩
 exact ⟨z, us, r, ⟨_, Heap.get?_push_size _ rfl, rfl, _, rfl⟩⟩
theorem zaop (h : PA X es t) : PE X (.List es pos) (tLst t) := by
 intro pins s σ H Q I hq
 refine wpAny_List_spliced (thn (h pos pins s σ H _ I hq) fun us s1 ⟨xs, H1, I1, r, z, q⟩ => ⟨by rw [← r.length]; exact z, ?_⟩)
 have hf : H1 s1.heap.objs.size = none := I1.hok.fresh (Nat.le_refl _)
 refine ⟨.ref s1.heap.objs.size, upd H1 s1.heap.objs.size (.lst xs), I1.laid (t' := s1.toks) (fun b u e => Heap.get?_push_of_some _ e) (Nat.le_refl _) ?_, rfl, q _ hf⟩
 exact ⟨z, us, 0, r, Heap.get?_push_size _ rfl⟩
end
abbrev Sp := List V → Hp → VK → XK → Prop
abbrev CXT := List Env → Hp → Shared → XK → Value → Shared → Prop
structure Env0 (P : Program) (w : World) (K : PySem.W.Frag) (mg : Str → Option Value) (base : Heap) (A : Around) (outer : List Env) (s : Shared) (H : Hp) : Prop where
 frames : A.frames = some outer
 mod : Mod K mg base
 bs : ∀ b o, base.get? b = some o → s.heap.get? b = some o ∧ H b = none
 bsz : base.objs.size ≤ s.heap.objs.size
 funs : s.heap.FunFrames base outer
 frf : ∀ b ∈ frs outer, H b = none
 hok : HOk P w H s.heap
 bare : AllBare s.gens
def CE (outer : List Env) (P : Program) (w : World) (H : Hp) (s : Shared) (Q : VK) (u : Value) (s' : Shared) : Prop :=
 ∃ v H', s'.os = s.os ∧ AllBare s'.gens ∧ Un (frs outer) [] H H' s.heap s'.heap ∧ HOk P w H' s'.heap ∧ RelV v u ∧ Q v H'
def CR (CX : CXT) (outer : List Env) (P : Program) (w : World) (H : Hp) (s : Shared) (Q : VK) (E : XK) (r : Result) (s' : Shared) : Prop :=
 match r with
 | .ok (.ret u) => CE outer P w H s Q u s'
 | .ok _ => False
 | .error e => CX outer H s E e s'
structure FnOk (P : Program) (w : World) (K : PySem.W.Frag) (mg : Str → Option Value) (base : Heap) (CX : CXT) (k : Nat) (f : Addr) (fd : FuncData) (ps : List Str) (sp : Sp) : Prop where
 len : ∀ vs H Q E, sp vs H Q E → vs.length = ps.length
 run : ∀ (A : Around) (outer : List Env) (s : Shared) (H : Hp) (args : Args) (us : List Value) (vs : List V) (Q : VK) (E : XK), Room k A → Env0 P w K mg base A outer s H → BindsTo s fd args (ps.zip us) → Vals vs us → sp vs H Q E →
  codeAny (model P w) A (.call (.ref f) args) (CR CX outer P w H s Q E) s
theorem FnOk.mono {P : Program} {w : World} {K : PySem.W.Frag} {mg : Str → Option Value} {base : Heap} {CX : CXT} {j k : Nat} {f : Addr} {fd : FuncData} {ps : List Str} {sp : Sp} (F : FnOk P w K mg base CX j f fd ps sp) (h : j ≤ k) :
  FnOk P w K mg base CX k f fd ps sp := ⟨F.len, fun A outer s H args us vs Q E hr => F.run A outer s H args us vs Q E (hr.mono h)⟩
theorem Env0.make {P : Program} {w : World} {K : PySem.W.Frag} {mg : Str → Option Value} {base : Heap} {A : Around} {outer : List Env} {s : Shared} {H : Hp} (e : Env0 P w K mg base A outer s H) (C : Addr) (us : List Value) (kw : List (Str × Value)) :
  Env0 P w K mg base (A.under (.builtin "type.__call__" ⟨.ref C :: us, kw⟩)) outer s H := ⟨by first | exact e.frames | (simpa [Around.under, Code.envs, Code.isFrame, pushEnvs] using e.frames), e.mod, e.bs, e.bsz, e.funs, e.frf, e.hok, e.bare⟩
section
variable {X : Cx} {pins : List (Addr × Obj)} {σ : St} {H : Hp} {s s' : Shared}
theorem Inv.env0 (I : Inv X pins σ H s) : Env0 X.prog X.w X.K X.mg X.base X.A X.stack s H :=
 ⟨I.ok.frames, I.ok.mod, I.bs, Nat.le_trans I.ok.bsz I.sz, I.stack, I.stkFree, I.hok, I.bare⟩
theorem Inv.after {Q : VK} {u : Value} (I : Inv X pins σ H s) (h : CE X.stack X.prog X.w H s Q u s') : EP X pins σ Q u s' := by
 obtain ⟨v, H', os, bare, un, hok, r, q⟩ := h
 obtain ⟨hh, g, d, t, os'⟩ := s'
 obtain rfl : os' = s.os := os
 exact ⟨v, H', I.call (h' := hh) (g' := g) (d' := d) (t' := t) (ch := []) un hok bare (fun b z => absurd z (by simp)), r, q⟩
end
def tCall (sp : Sp) (dvs : List V) (E : XK) (t : TA) : TE := fun σ H Q => t σ H fun vs H1 => sp (vs ++ dvs) H1 Q E
def tMeth (C : Addr) (m : Str) (sp : Sp) (dvs : List V) (E : XK) (ta : TE) (t : TA) : TE := fun σ H Q => ta σ H fun x H1 => ∃ a dx fs, x = .ref a ∧ H1 a = some (.ins C dx fs) ∧ fs.lookup m = none ∧
 t σ H1 fun vs H2 => sp (x :: (vs ++ dvs)) H2 Q E
def tMake (C : Addr) (sp : Sp) (dvs : List V) (E : XK) (t : TA) : TE := fun σ H Q => t σ H fun vs H1 => ∀ x dx, H1 x = none → H1 dx = none → dx ≠ x →
 sp (.ref x :: (vs ++ dvs)) (upd (upd H1 dx (.own x)) x (.ins C dx [])) (fun v H2 => v = .non ∧ Q (.ref x) H2) E
def Binds (K : PySem.W.Frag) (fd : FuncData) (ps : List Str) (ds : List Value) : Prop :=
 ∀ (s : Shared) (us : List Value), K.In s.heap → (us ++ ds).length = ps.length → BindsTo s fd ⟨us, []⟩ (ps.zip (us ++ ds))
theorem Binds.all {K : PySem.W.Frag} {fd : FuncData} {ps : List Str} (h : ∀ us : List Value, us.length = ps.length → bindArgs fd ⟨us, []⟩ = pure (ps.zip us)) : Binds K fd ps [] := fun s us _ hl => by
 rw [List.append_nil] at hl ⊢
 exact .of_eq (h us hl)
def Passes (CX : CXT) (X : Cx) (E : XK) : Prop := ∀ (pins : List (Addr × Obj)) (σ : St) (H : Hp) (s : Shared) (e : Value) (s' : Shared), Inv X pins σ H s → CX X.stack H s E e s' → X.xe e s'
section
variable {X : Cx} {CX : CXT} {k : Nat} {f C : Addr} {fd : FuncData} {ps : List Str} {sp : Sp} {dvs : List V} {ds : List Value} {E : XK} {x m : Str} {p pos apos : Pos} {e o : Expr} {es : List Expr} {ta : TE} {t : TA}
theorem zaoq {pins : List (Addr × Obj)} {σ : St} {H : Hp} {s : Shared} {Q : VK} {us : List Value} {vs : List V} (F : FnOk X.prog X.w X.K X.mg X.base CX k f fd ps sp) (hr : Room k X.A) (hb : Binds X.K fd ps ds) (hd : Vals dvs ds) (hx : Passes CX X E)
  (I : Inv X pins σ H s) (r : Vals vs us) (h : sp (vs ++ dvs) H Q E) : wpAny (model X.prog X.w) X.A (call (.ref f) us) (EP X pins σ Q) X.xe s := by
 have r2 : Vals (vs ++ dvs) (us ++ ds) := r.append hd
 have hl : (us ++ ds).length = ps.length := by rw [← r2.length]; exact F.len _ _ _ _ h
 refine wpAny_call (codeAny_mono (F.run X.A X.stack s H ⟨us, []⟩ (us ++ ds) (vs ++ dvs) Q E hr I.env0 (hb s us I.kIn hl) r2 h) fun r s' hq => ?_)
 cases r with
 | error e => exact hx pins σ H s e s' I hq
 | ok fl =>
  cases fl with
  | ret u => exact I.after hq
  | next => exact False.elim hq
  | brk => exact False.elim hq
  | cont => exact False.elim hq
theorem zamq (F : FnOk X.prog X.w X.K X.mg X.base CX k f fd ps sp) (hr : Room k X.A) (hg : Gl X x) (hm : X.mg x = some (.ref f)) (hk : PySem.W.keepIn X.K (.ref f) = true) (hb : Binds X.K fd ps ds) (hd : Vals dvs ds) (hx : Passes CX X E)
  (ha : PA X (e :: es) t) (hdb : (x == ("__debug__" : Str)) = false := by decide) (he : starEach (e :: es) X.env = (false, eval e X.env) :: starEach es X.env := by rfl) (hpl : (backTo pos (starEach es X.env)).any (·.1) = false := by rfl) :
  PE X (.Call (.Name x p) (e :: es) [] pos) (tCall sp dvs E t) := by
 intro pins s σ H Q I h
 refine wpAny_Call_Name_kw (zadd I hg hm ?_ hdb)
 refine PySem.W.callWith_K (h₀ := X.base) I.ok.mod.kin hk (thn (ha pos pins s σ H _ I h) fun us s1 ⟨vs, H1, I1, r, q⟩ => ⟨I1.kIn, ?_⟩) he hpl
 exact zaoq F hr hb hd hx I1 r q
structure Mk (K : PySem.W.Frag) (C f : Addr) : Prop where
 makes : PySem.W.makesIn K C = true
 init : PySem.W.findIn K (.ref C) "__init__" = some (some (.ref f))
 fn : PySem.W.isFn K (.ref f) = true
 kp : PySem.W.keepIn K (.ref C) = true
theorem zakv {pins : List (Addr × Obj)} {σ : St} {H : Hp} {s : Shared} {Q : VK} {us : List Value} {vs : List V} (M : Mk X.K C f) (F : FnOk X.prog X.w X.K X.mg X.base CX k f fd ps sp) (hr : Room (k + 1) X.A) (hb : Binds X.K fd ps ds) (hd : Vals dvs ds)
  (hx : Passes CX X E) (I : Inv X pins σ H s) (r : Vals vs us)
  (h : ∀ x dx, H x = none → H dx = none → dx ≠ x → sp (.ref x :: (vs ++ dvs)) (upd (upd H dx (.own x)) x (.ins C dx [])) (fun v H2 => v = .non ∧ Q (.ref x) H2) E) :
  wpAny (model X.prog X.w) X.A (call (.ref C) us) (EP X pins σ Q) X.xe s := by
 have hq := h (s.heap.objs.size + 1) s.heap.objs.size (I.hok.fresh (Nat.le_succ _)) (I.hok.fresh (Nat.le_refl _)) (Nat.ne_of_lt (Nat.lt_succ_self _))
 have I2 := Inv.made (C := C) I
 have r2 : Vals (V.ref (s.heap.objs.size + 1) :: (vs ++ dvs)) (Value.ref (s.heap.objs.size + 1) :: (us ++ ds)) := .cons rfl (r.append hd)
 have hl : (Value.ref (s.heap.objs.size + 1) :: us ++ ds).length = ps.length := by
  have e := r2.length
  rw [F.len _ _ _ _ hq] at e
  exact e.symm
 refine wpAny_call (zahs (f := f) I.kIn M.makes M.init (beq_iff_eq.mp M.fn) (codeAny_mono (F.run _ X.stack _ _ ⟨Value.ref (s.heap.objs.size + 1) :: us, []⟩ (Value.ref (s.heap.objs.size + 1) :: (us ++ ds)) _ _ E (hr.make C us [])
  (I2.env0.make C us []) (hb _ (Value.ref (s.heap.objs.size + 1) :: us) I2.kIn hl) r2 hq) fun r s' hq' => ?_))
 cases r with
 | error e => exact hx pins σ _ _ e s' I2 hq'
 | ok fl =>
  cases fl with
  | ret u =>
   obtain ⟨v, H', I3, rv, ev, q3⟩ := I2.after hq'
   subst ev
   exact ⟨rv, ⟨V.ref (s.heap.objs.size + 1), H', I3, rfl, q3⟩⟩
  | next => exact False.elim hq'
  | brk => exact False.elim hq'
  | cont => exact False.elim hq'
theorem zamr (M : Mk X.K C f) (F : FnOk X.prog X.w X.K X.mg X.base CX k f fd ps sp) (hr : Room (k + 1) X.A) (hg : Gl X x) (hm : X.mg x = some (.ref C)) (hb : Binds X.K fd ps ds) (hd : Vals dvs ds) (hx : Passes CX X E)
  (ha : PA X (e :: es) t) (hdb : (x == ("__debug__" : Str)) = false := by decide) (he : starEach (e :: es) X.env = (false, eval e X.env) :: starEach es X.env := by rfl) (hpl : (backTo pos (starEach es X.env)).any (·.1) = false := by rfl) :
  PE X (.Call (.Name x p) (e :: es) [] pos) (tMake C sp dvs E t) := by
 intro pins s σ H Q I h
 refine wpAny_Call_Name_kw (zadd I hg hm ?_ hdb)
 refine PySem.W.callWith_K (h₀ := X.base) I.ok.mod.kin M.kp (thn (ha pos pins s σ H _ I h) fun us s1 ⟨vs, H1, I1, r, q⟩ => ⟨I1.kIn, ?_⟩) he hpl
 exact zakv M F hr hb hd hx I1 r q
end
def PK (X : Cx) (kws : List Keyword) (t : TA) : Prop :=
 ∀ (pos : Pos) (pins : List (Addr × Obj)) (s : Shared) (σ : St) (H : Hp) (Q : List V → Hp → Prop), Inv X pins σ H s → t σ H Q → wpAny (model X.prog X.w) X.A (evalAll ((backToKw pos (keywordEach kws X.env)).map (·.2))) (AP X pins σ Q) X.xe s
section
variable {X : Cx} {CX : CXT} {k : Nat} {f C : Addr} {fd : FuncData} {ps ks : List Str} {sp : Sp} {E : XK} {x m : Str} {p pos apos kpos : Pos} {e o : Expr} {es : List Expr} {kws : List Keyword} {te ta : TE} {t tk : TA} {nm : Option Str}
structure KBinds (K : PySem.W.Frag) (fd : FuncData) (ps ks : List Str) (g : List Value → List Value → List Value) (gV : List V → List V → List V) : Prop where
 to : ∀ (s : Shared) (us ws : List Value), K.In s.heap → (g us ws).length = ps.length → BindsTo s fd ⟨us, ks.zip ws⟩ (ps.zip (g us ws))
 rel : ∀ {vs : List V} {us : List Value} {zs : List V} {ws : List Value}, Vals vs us → Vals zs ws → Vals (gV vs zs) (g us ws)
def tCallK (sp : Sp) (gV : List V → List V → List V) (E : XK) (t tk : TA) : TE := fun σ H Q => t σ H fun vs H1 => tk σ H1 fun zs H2 => sp (gV vs zs) H2 Q E
variable {g : List Value → List Value → List Value} {gV : List V → List V → List V}
end
structure FnScope (N P : List Str) (sc : Scope) : Prop where
 kind : sc.kind = .function
 co : sc.isCoroutine = false
 gen : sc.isGenerator = false
 nd : N.Nodup
 pre : N.take P.length = P
 par : ∀ x ∈ P, sc.names.lookup x = some .local ∨ sc.names.lookup x = some .cell
 nofree : ∀ y ∈ sc.names, y.2 ≠ .free
theorem zage {kindOf : Str → Option NameKind} {x : Str} : ∀ {binds : List (Str × Value)} {m : Str → Option Value}, (∀ v, (x, v) ∉ binds) → bindL kindOf binds m x = m x
 | [], _, _ => rfl
 | (n, v) :: r, m, h => by
  unfold bindL
  rw [zage fun w hw => h w (List.mem_cons_of_mem _ hw)]
  split
  ·have : x ≠ n := by rintro rfl; exact h v List.mem_cons_self
   simp [this]
  ·rfl
theorem zagf {kindOf : Str → Option NameKind} {x : Str} : ∀ {binds : List (Str × Value)} {m : Str → Option Value}, (∀ v, (x, v) ∉ binds) → bindC kindOf binds m x = m x
 | [], _, _ => rfl
 | (n, v) :: r, m, h => by
  unfold bindC
  rw [zagf fun w hw => h w (List.mem_cons_of_mem _ hw)]
  split
  ·rfl
  ·have : x ≠ n := by rintro rfl; exact h v List.mem_cons_self
   simp [this]
theorem zagg {kindOf : Str → Option NameKind} {x : Str} {v : Value} : ∀ {P : List Str} {vs : List Value} {i : Nat} {m : Str → Option Value}, P.Nodup → P[i]? = some x → vs[i]? = some v → kindOf x = some .local →
  bindL kindOf (P.zip vs) m x = some v
 | [], _, _, _, _, h, _, _ => by simp at h
 | _ :: _, [], _, _, _, _, h, _ => by simp at h
 | p :: P, w :: vs, 0, m, nd, h1, h2, hk => by
  simp at h1 h2; subst h1; subst h2
  show bindL kindOf ((p, w) :: P.zip vs) m p = _
  unfold bindL
  rw [zage fun v hv => (List.nodup_cons.mp nd).1 (List.of_mem_zip hv).1, if_pos hk]
  simp
 | p :: P, w :: vs, i + 1, m, nd, h1, h2, hk => by
  show bindL kindOf ((p, w) :: P.zip vs) m x = _
  unfold bindL
  exact zagg (i := i) (List.nodup_cons.mp nd).2 (by simpa using h1) (by simpa using h2) hk
theorem zagh {kindOf : Str → Option NameKind} {x : Str} {v : Value} : ∀ {P : List Str} {vs : List Value} {i : Nat} {m : Str → Option Value}, P.Nodup → P[i]? = some x → vs[i]? = some v → kindOf x ≠ some .local →
  bindC kindOf (P.zip vs) m x = some v
 | [], _, _, _, _, h, _, _ => by simp at h
 | _ :: _, [], _, _, _, _, h, _ => by simp at h
 | p :: P, w :: vs, 0, m, nd, h1, h2, hk => by
  simp at h1 h2; subst h1; subst h2
  show bindC kindOf ((p, w) :: P.zip vs) m p = _
  unfold bindC
  rw [zagf fun v hv => (List.nodup_cons.mp nd).1 (List.of_mem_zip hv).1, if_neg hk]
  simp
 | p :: P, w :: vs, i + 1, m, nd, h1, h2, hk => by
  show bindC kindOf ((p, w) :: P.zip vs) m x = _
  unfold bindC
  exact zagh (i := i) (List.nodup_cons.mp nd).2 (by simpa using h1) (by simpa using h2) hk
def start (N : List Str) (vs : List V) : St := vs.map some ++ List.replicate (N.length - vs.length) none
def cxOf (CX : CXT) (P : Program) (w : World) (K : PySem.W.Frag) (mg : Str → Option Value) (base : Heap) (N : List Str) (qual : Str) (scope : Scope) (f : Addr) (cd : Value) (A : Around) (outer : List Env) (s : Shared) (H : Hp) (E : XK) : Cx where
 prog := P
 w := w
 K := K
 mg := mg
 base := base
 A := A.deeper (envOfC qual scope s.heap.objs.size f cd)
 N := N
 s₀ := s
 H₀ := H
 env := envOfC qual scope s.heap.objs.size f cd
 outer := outer
 stack := envOfC qual scope s.heap.objs.size f cd :: outer
 ex := []
 calm := true
 fn := fun _ => true
 pn := []
 xe := fun e s' => wpAny (model P w) (A.deeper (envOfC qual scope s.heap.objs.size f cd)) (leaving (envOfC qual scope s.heap.objs.size f cd) e) (fun _ s'' => CX outer H s E e s'') (fun e' s'' => CX outer H s E e' s'') s'
theorem zaht {sc : Scope} {n : Nat} {x : Str} (h : sc.names.lookup x = some .cell) : ∃ c, (cellsFrom n sc.names []).lookup x = some c := by
 have q := PySem.W.cellsFrom_some sc.names n [] (.inl h)
 exact Option.isSome_iff_exists.mp q
theorem zagi {CX : CXT} {P : Program} {w : World} {K : PySem.W.Frag} {mg : Str → Option Value} {base : Heap} {N ps : List Str} {qual : Str} {scope : Scope} {f : Addr} {cd : Value} {A : Around} {outer : List Env} {s s1 : Shared} {H : Hp} {E : XK} {us : List Value} {vs : List V}
  (S : FnScope N ps scope) (hd : A.handled = none) (e0 : Env0 P w K mg base A outer s H) (hl : vs.length = ps.length) (r : Vals vs us)
  (x : InCallC s s.heap.objs.size (bindL (envOfC qual scope s.heap.objs.size f cd).kindOf (ps.zip us) fun _ => none) (cellsFrom (s.heap.objs.size + 1) scope.names []) (bindC (envOfC qual scope s.heap.objs.size f cd).kindOf (ps.zip us) fun _ => none) s1) :
  Inv (cxOf CX P w K mg base N qual scope f cd A outer s H E) [] (start N vs) H s1 := by
 have hpl : ps.length ≤ N.length := by have := congrArg List.length S.pre; rw [List.length_take] at this; omega
 obtain ⟨h1, tk, rfl, hk⟩ := x.done
 have noA : ∀ b : Addr, b ∉ (cxOf CX P w K mg base N qual scope f cd A outer s H E).ex := fun b z => absurd (show b ∈ ([] : List Addr) from z) (by simp)
 refine ⟨⟨e0.mod, S.kind, rfl, rfl, Nat.le_refl _, fun y z c h1 h2 => ?_, fun y hy => ?_, fun y c _ h => ?_, fun _ => hd, Around.frames_deeper e0.frames, .inr ⟨rfl, rfl⟩, fun b z => absurd z (noA b), e0.bs, e0.bsz, fun b _ _ => noA b, fun b z => absurd z (noA b), e0.funs, e0.frf⟩,
  rfl, e0.bare, Un.kept hk, ⟨_, x.toInCall.ns, fun i y v h1 h2 h3 => ?_⟩, fun y c h => ⟨_, x.cell y c h⟩, e0.hok.fresh (Nat.le_refl _), fun y c h => ?_, fun p hp => absurd (show p ∈ ([] : List (Addr × Obj)) from hp) (by simp), e0.hok.kept hk, ?_⟩
 ·exact name_of_addr x.apart (PySem.mem_of_lookup h1) (PySem.mem_of_lookup h2)
 ·have hy : scope.names.lookup y = some .cell ∨ scope.names.lookup y = some .free := hy
  rcases hy with hy | hy
  ·exact zaht hy
  ·exact absurd rfl (S.nofree _ (PySem.mem_of_lookup hy))
 ·exact Nat.le_of_lt (x.above y c (PySem.mem_of_lookup h))
 ·have hi : i < vs.length := by
   unfold start at h2
   by_cases hi : i < vs.length
   ·exact hi
   ·rw [List.getElem?_append_right (by simpa using hi)] at h2
    rw [List.getElem?_replicate] at h2
    split at h2 <;> cases h2
  have ha : vs[i]? = some v := by
   unfold start at h2
   rw [List.getElem?_append_left (by simpa using hi), List.getElem?_map] at h2
   cases e : vs[i]? with
   | none => rw [e] at h2; cases h2
   | some a => rw [e] at h2; cases h2; rfl
  obtain ⟨u, hu, rv⟩ := r.get ha
  have hp : ps[i]? = some y := by
   rw [← S.pre, List.getElem?_take_of_lt (by omega)]; exact h1
  have ndP : ps.Nodup := by rw [← S.pre]; exact S.nd.sublist (List.take_sublist _ _)
  refine ⟨u, rv, ?_⟩
  rcases S.par y (List.mem_of_getElem? hp) with k | k
  ·exact .inl ⟨k, zagg ndP hp hu k⟩
  ·obtain ⟨c, e⟩ := zaht (n := s.heap.objs.size + 1) k
   refine .inr ⟨.inl k, c, e, ?_⟩
   have q := x.cell y c e
   rw [zagh ndP hp hu (by show scope.names.lookup y ≠ _; rw [k]; decide)] at q
   exact q
 ·exact e0.hok.fresh (Nat.le_of_lt (x.above y c (PySem.mem_of_lookup h)))
 ·unfold start
  show _ = N.length
  rw [List.length_append, List.length_map, List.length_replicate]
  omega
theorem zaor {CX : CXT} {P : Program} {w : World} {K : PySem.W.Frag} {mg : Str → Option Value} {base : Heap} {k : Nat} {f : Addr} {name qual : Str} {params : Arguments} {body : List Stmt} {scope : Scope} {dV kV doc pm cdv ct oc : Value} {an od : Option Addr}
  {osl : Array (Option Value)} {N ps : List Str} {sp : Sp} (lk : K.lookup f = some ⟨oc, od, .func (PySem.W.fnOf name qual params body scope dV kV doc pm an cdv ct), osl⟩) (hcd : PySem.W.codeIn K cdv qual = true) (S : FnScope N ps scope)
  (len : ∀ vs H Q E, sp vs H Q E → vs.length = ps.length)
  (hbody : ∀ (A : Around) (outer : List Env) (s : Shared) (H : Hp) (vs : List V) (Q : VK) (E : XK), Room k (A.deeper (envOfC qual scope s.heap.objs.size f cdv)) → sp vs H Q E →
   ∃ t, PSs (cxOf CX P w K mg base N qual scope f cdv A outer s H E) body t ∧ t { nx := fun _ H' => Q .non H', rt := Q } (start N vs) H) :
  FnOk P w K mg base CX (k + 1) f (PySem.W.fnOf name qual params body scope dV kV doc pm an cdv ct) ps sp := by
 refine ⟨len, fun A outer s H args us vs Q E hr e0 hb r hsp => ?_⟩
 have hl := len _ _ _ _ hsp
 have KX : K.In s.heap := e0.mod.kin.keeps fun b o e => (e0.bs b o e).1
 have lim : s.heap.NoLimit := e0.mod.nolimit.keeps fun b o e => (e0.bs b o e).1
 have hkind : ∀ y ∈ ps.zip us, scope.names.lookup y.1 = some .local ∨ (scope.names.lookup y.1 = some .cell ∧ ((cellsFrom (s.heap.objs.size + 1) scope.names []).lookup y.1).isSome = true) := fun ⟨n, v⟩ hy => by
  rcases S.par n (List.of_mem_zip hy).1 with q | q
  ·exact .inl q
  ·exact .inr ⟨q, PySem.W.cellsFrom_some _ _ _ (.inl q)⟩
 refine codeAny_call_function hr.depth (KX _ _ lk) rfl S.co S.gen rfl (PySem.W.codeRec_of KX hcd) (hb _ _ _ _ ?_)
 refine wpAny_newFunctionEnv_cells S.kind hkind fun env he s1 x => ?_
 subst he
 refine ⟨lim.keeps x.toInCall.keep, codeAny_func ?_⟩
 obtain ⟨t, ht, hq⟩ := hbody A outer s H vs Q E (hr.deeper _) hsp
 have I : Inv (cxOf CX P w K mg base N qual scope f cdv A outer s H E) [] (start N vs) H s1 := zagi S hr.hd e0 hl r x
 refine wpAny_mono (ht [] s1 (start N vs) H _ I hq) (fun fl s' hs => ?_) fun e s' hs => hs
 have fin : ∀ {σ' : St} {H' : Hp} {v : V} {u : Value}, Inv (cxOf CX P w K mg base N qual scope f cdv A outer s H E) [] σ' H' s' → RelV v u → Q v H' → CE outer P w H s Q u s' :=
  fun {σ' H' v u} J rv q => ⟨v, H', J.os, J.bare, J.base, J.hok, rv, q⟩
 cases fl with
 | ret u =>
  obtain ⟨v, σ', H', J, rv, q⟩ := hs
  exact fin J rv q
 | next =>
  obtain ⟨σ', H', J, q⟩ := hs
  exact fin (v := V.non) (u := Value.none) J rfl q
 | brk =>
  obtain ⟨_, _, _, q⟩ := hs
  exact False.elim q
 | cont =>
  obtain ⟨_, _, _, q⟩ := hs
  exact False.elim q
section
variable {X : Cx} {x : Str} {p pos : Pos} {e : Expr} {es : List Expr} {t : TA} {id T : String} {r : List V → Hp → VK → Prop}
def tCB (r : List V → Hp → VK → Prop) (t : TA) : TE := fun σ H Q => t σ H fun vs H1 => r vs H1 Q
theorem zakw (hc : CallR X (.builtin id) r) (hg : Gl X x) (hm : X.mg x = none) (hv : bootBuiltins x = some (.builtin id)) (ha : PA X (e :: es) t) (hn : x ≠ "__name__" := by decide) (hdb : (x == ("__debug__" : Str)) = false := by decide)
  (he : starEach (e :: es) X.env = (false, eval e X.env) :: starEach es X.env := by rfl) (hpl : (backTo pos (starEach es X.env)).any (·.1) = false := by rfl) : PE X (.Call (.Name x p) (e :: es) [] pos) (tCB r t) := by
 intro pins s σ H Q I h
 refine wpAny_Call_Name_kw (zaea I hg hm hv ?_ hn hdb)
 exact PyProof.Rows.callWith_builtin1 (thn (ha pos pins s σ H _ I h) fun us s1 ⟨vs, H1, I1, r1, q1⟩ => hc pins s1 σ H1 vs us Q I1 r1 q1) he hpl
theorem zaja (hc : CallR X (.type T) r) (hg : Gl X x) (hm : X.mg x = none) (hv : bootBuiltins x = some (.type T)) (ha : PA X (e :: es) t) (hn : x ≠ "__name__" := by decide) (hdb : (x == ("__debug__" : Str)) = false := by decide)
  (he : starEach (e :: es) X.env = (false, eval e X.env) :: starEach es X.env := by rfl) (hpl : (backTo pos (starEach es X.env)).any (·.1) = false := by rfl) : PE X (.Call (.Name x p) (e :: es) [] pos) (tCB r t) := by
 intro pins s σ H Q I h
 refine wpAny_Call_Name_kw (zaea I hg hm hv ?_ hn hdb)
 exact PyProof.Rows.callWith_type1 (thn (ha pos pins s σ H _ I h) fun us s1 ⟨vs, H1, I1, r1, q1⟩ => hc pins s1 σ H1 vs us Q I1 r1 q1) he hpl
end
end L2
namespace HT
open PySem PyProof.Rows
def lexLt : List Int → List Int → Bool
 | [], [] => false
 | [], _ :: _ => true
 | _ :: _, [] => false
 | x :: xs, y :: ys => if x = y then lexLt xs ys else decide (x < y)
section
open PySem.SeqAt
open PySem.AutoSeq1 (wpAny_loadPart')
open PySem.MeetsSeq PySem.MeetsSeq2 PySem.MeetsSeq3
end
section
variable {prog : Program} {w : World} {A : Around} {E : Value → Shared → Prop} {s : Shared}
theorem cat_tup {t b : Addr} {vs ws : List Value} {Q : Value → Shared → Prop} (ht : IsTup s.heap t vs.toArray) (hb : IsTup s.heap b ws.toArray) (hv : vs ≠ [])
  (h1 : ws = [] → Q (.ref t) s) (h2 : ws ≠ [] → Q (.ref s.heap.objs.size) { s with heap := s.heap.push { cls := .type "tuple", data := .seq (vs ++ ws).toArray } })
  (hsz : vs.length + ws.length ≤ sizeLine) : wpAny (model prog w) A (binaryOp .Add (.ref t) (.ref b)) Q E s := by
 obtain ⟨⟨cls, dd, data, sl⟩, ho, hc, n, hd⟩ := id ht
 obtain ⟨⟨cls2, dd2, data2, sl2⟩, ho2, hc2, n2, hd2⟩ := id hb
 simp only at hc hd hc2 hd2
 subst hc hd hc2 hd2
 have e : vs.toArray ++ ws.toArray = (vs ++ ws).toArray := by simp
 by_cases hw : ws = []
 ·exact concat_meets ⟨_, ho, rfl⟩ ⟨_, ho2, rfl⟩ noFill_tuple_add seq_tuple_add PySem.F.slot_tuple_add PySem.F.entry_tuple_add (PySem.F.args_tuple_add_2 _ _)
   (tuple_addW1 t b vs.toArray ws.toArray n n2 dd dd2 sl sl2 (by simpa using hv) (by simp [hw])) ⟨ho, ho2, h1 hw⟩
 ·refine concat_meets ⟨_, ho, rfl⟩ ⟨_, ho2, rfl⟩ noFill_tuple_add seq_tuple_add PySem.F.slot_tuple_add PySem.F.entry_tuple_add (PySem.F.args_tuple_add_2 _ _)
   (tuple_addW2 t b vs.toArray ws.toArray n n2 dd dd2 sl sl2 (by simpa using hv) (by simpa using hw) (by rw [List.size_toArray, List.size_toArray]; exact hsz)) ⟨ho, ho2, ?_⟩
  rw [e]
  exact h2 hw
def sIx (n d : Nat) : Option Int → Nat
 | none => d
 | some v => if v < 0 then (v + (n : Int)).toNat else min v.toNat n
theorem sIx_none (n d : Nat) : sIx n d none = d := rfl
theorem sIx_nat (n d k : Nat) : sIx n d (some (k : Int)) = min k n := by
 show (if (k : Int) < 0 then ((k : Int) + (n : Int)).toNat else min (k : Int).toNat n) = min k n
 rw [if_neg (by omega), Int.toNat_natCast]
theorem zaos (n d : Nat) (hd : d ≤ n) (o : Option Int) : sIx n d o ≤ n := by
 cases o with
 | none => exact hd
 | some v =>
  show (if v < 0 then (v + (n : Int)).toNat else min v.toNat n) ≤ n
  by_cases hv : v < 0
  ·rw [if_pos hv]; omega
  ·rw [if_neg hv]; exact Nat.min_le_right _ _
theorem zajb (v : Int) (n d : Nat) : (if v < 0 then max (v + (n : Int)) 0 else min v (n : Int)) = ((sIx n d (some v) : Nat) : Int) := by
 show (if v < 0 then max (v + (n : Int)) 0 else min v (n : Int)) = (((if v < 0 then (v + (n : Int)).toNat else min v.toNat n) : Nat) : Int)
 by_cases hv : v < 0
 ·simp only [if_pos hv]; omega
 ·simp only [if_neg hv]; omega
theorem zaii (lo hi : Option Int) (n : Nat) : Builtin.Slice.sliceAdjust lo hi 1 (n : Int) = (((sIx n 0 lo : Nat) : Int), ((sIx n n hi : Nat) : Int)) := by
 have h1 : ¬ ((1 : Int) < 0) := by omega
 unfold Builtin.Slice.sliceAdjust
 simp only [h1, if_false]
 refine Prod.ext ?_ ?_
 ·cases lo with
  | none => rfl
  | some v => exact zajb v n 0
 ·cases hi with
  | none => rfl
  | some v => exact zajb v n n
theorem zaij (i j : Nat) : Builtin.Slice.slicePlaces (i : Int) (j : Int) 1 = j - i := by
 unfold Builtin.Slice.slicePlaces
 have h1 : (1 : Int) > 0 := by omega
 simp only [h1, if_true, Int.ediv_one]
 split <;> omega
theorem zae6 {v : Value} {o : Option Int} {Q : Option Int → Shared → Prop} (p : IsPart v o) (h : Q o s) : wpAny (model prog w) A (Builtin.Slice.slicePartIndex v) Q E s := by
 cases p with
 | none => exact slicePart_none h
 | int i t => exact slicePart_int h
theorem zac6 {sl : Addr} {vl vu : Value} {lo hi : Option Int} {n : Nat} {Q : Int × Int × Nat → Shared → Prop} (hs : s.heap.IsSliceOf sl vl vu .none) (pl : IsPart vl lo) (pu : IsPart vu hi)
  (h : Q (((sIx n 0 lo : Nat) : Int), 1, sIx n n hi - sIx n 0 lo) s) : wpAny (model prog w) A (Builtin.Slice.sliceApplied (.ref sl) (pure (n : Int))) Q E s := by
 obtain ⟨os, hos, hcs, hds⟩ := id hs
 unfold Builtin.Slice.sliceApplied Builtin.Slice.sliceFields
 refine wpAny_bind (wpAny_bind (wpAny_field hos hds (x := vl) rfl (wpAny_bind (wpAny_field hos hds (x := vu) rfl (wpAny_bind (wpAny_field hos hds (x := .none) rfl (wpAny_pure ?_)))))))
 refine wpAny_bind (slicePart_none ?_)
 show wpAny _ _ (if ((1 : Int) == 0) = true then _ else _) _ _ s
 rw [if_neg (by decide)]
 refine wpAny_bind (zae6 pl (wpAny_bind (zae6 pu (wpAny_bind (wpAny_pure ?_)))))
 show wpAny _ _ (match Builtin.Slice.sliceAdjust lo hi 1 (n : Int) with | (lo, hi) => pure (lo, (1 : Int), Builtin.Slice.slicePlaces lo hi 1)) _ _ s
 rw [zaii lo hi n]
 show wpAny _ _ (pure (((sIx n 0 lo : Nat) : Int), (1 : Int), Builtin.Slice.slicePlaces ((sIx n 0 lo : Nat) : Int) ((sIx n n hi : Nat) : Int) 1)) _ _ s
 rw [zaij]
 exact wpAny_pure h
theorem zakx (xs : Array Value) (i k : Nat) : ((List.range k).filterMap fun (m : Nat) => xs[((i : Int) + (m : Int) * 1).toNat]?).toArray = ((xs.toList.drop i).take k).toArray := by
 have e : (fun (m : Nat) => xs[((i : Int) + (m : Int) * 1).toNat]?) = fun m => xs[i + m]? := by
  funext m
  have : ((i : Int) + (m : Int) * 1).toNat = i + m := by omega
  rw [this]
 rw [e]
 have := pick_run xs i k
 rw [List.filterMap_map] at this
 have e2 : ((fun x => xs[x]?) ∘ fun x => i + x) = fun m => xs[i + m]? := rfl
 rw [e2] at this
 rw [this]
theorem getItem_tuple_cut {t sl : Addr} {items : Array Value} {vl vu : Value} {lo hi : Option Int} {Q : Value → Shared → Prop} (ht : IsTup s.heap t items) (hs : s.heap.IsSliceOf sl vl vu .none) (pl : IsPart vl lo) (pu : IsPart vu hi)
  (hw : ¬ (sIx items.size 0 lo = 0 ∧ sIx items.size items.size hi = items.size))
  (h : Q (.ref s.heap.objs.size) { s with heap := s.heap.push { cls := .type "tuple", data := .seq ((items.toList.drop (sIx items.size 0 lo)).take (sIx items.size items.size hi - sIx items.size 0 lo)).toArray } })
  (hsz : items.size ≤ sizeLine) : wpAny (model prog w) A (getItem (.ref t) (.ref sl)) Q E s := by
 have htake : sizeOk (.seq ((items.toList.drop (sIx items.size 0 lo)).take (sIx items.size items.size hi - sIx items.size 0 lo)).toArray) := by
  show ((items.toList.drop (sIx items.size 0 lo)).take (sIx items.size items.size hi - sIx items.size 0 lo)).toArray.size ≤ sizeLine
  rw [List.size_toArray, List.length_take, List.length_drop, Array.length_toList]
  omega
 have hj : sIx items.size items.size hi ≤ items.size := zaos _ _ (Nat.le_refl _) hi
 obtain ⟨os, hos, hcs, hds⟩ := id hs
 have hTs : s.TypeIs (.ref sl) "slice" := ⟨os, hos, hcs⟩
 unfold getItem
 try with_reducible refine wpAny_holding ?_
 first | refine wpAny_bind (wpAny_pure ?_) | skip
 refine wpAny_bind (wpAny_sequenceKey ht.typeIs (by decide) ?_)
 refine wpAny_bind (wpAny_callSpecial?_slot (name := Str.ofString "__getitem__") ht.typeIs PyProof.Rows.slot_tuple_getitem
  (wpAny_call_entry PyProof.Rows.slot_tuple_getitem ht.typeIs entry_tuple_getitem ?_ (args_tuple_getitem _ _)))
 show wpAny _ _ (Builtin.Tuple.tupleItemsOf (.ref t) >>= _) _ _ s
 refine wpAny_bind (tupleItemsOf_ ht ?_)
 refine wpAny_bind (wpAny_typeOf hTs ?_)
 rw [if_pos (by decide)]
 refine wpAny_bind (zac6 hs pl pu ?_)
 have hno : ¬ ((((sIx items.size 0 lo : Nat) : Int) == 0 && (1 : Int) == 1 && (sIx items.size items.size hi - sIx items.size 0 lo) == items.size) = true) := by
  intro q
  rw [Bool.and_eq_true, Bool.and_eq_true] at q
  have q1 : ((sIx items.size 0 lo : Nat) : Int) = 0 := eq_of_beq q.1.1
  have q2 : sIx items.size items.size hi - sIx items.size 0 lo = items.size := eq_of_beq q.2
  exact hw ⟨by omega, by omega⟩
 show wpAny _ _ (if (((sIx items.size 0 lo : Nat) : Int) == 0 && (1 : Int) == 1 && (sIx items.size items.size hi - sIx items.size 0 lo) == items.size) = true then _ else _) _ _ s
 rw [if_neg hno, zakx]
 first
  | exact wpAny_bind (m := Builtin.Tuple.tupleExact _) (wpAny_newObj_type (wpAny_pure ⟨_, rfl, wpAny_pure h⟩) htake)
  | exact wpAny_bind (m := Builtin.Tuple.tupleExact _) (wpAny_newObj_type (wpAny_bind (wpAny_pure (wpAny_pure ⟨_, rfl, wpAny_pure h⟩))) htake)
  | exact wpAny_bind (wpAny_bind (m := Builtin.Tuple.tupleExact _) (wpAny_newObj_type (wpAny_pure (wpAny_pure ⟨_, rfl, wpAny_pure h⟩)) htake))
  | exact wpAny_bind (wpAny_bind (m := Builtin.Tuple.tupleExact _) (wpAny_newObj_type (wpAny_pure ⟨_, rfl, wpAny_pure h⟩) htake))
end
end HT
namespace L2
open PySem PySem.Spec PyProof.Rows
abbrev TO := St → Hp → (Option Int → Hp → Prop) → Prop
def PO (X : Cx) (e : Option Expr) (t : TO) : Prop :=
 ∀ (pins : List (Addr × Obj)) (s : Shared) (σ : St) (H : Hp) (Q : Option Int → Hp → Prop), Inv X pins σ H s → t σ H Q →
  wpAny (model X.prog X.w) X.A (evalPart e X.env) (fun u s' => ∃ o H', Inv X pins σ H' s' ∧ IsPart u o ∧ Q o H') X.xe s
def tNoPart : TO := fun _ H Q => Q none H
def tPart (t : TE) : TO := fun σ H Q => t σ H fun x H1 => ∃ i, x = .int i ∧ Q (some i) H1
section
variable {X : Cx} {e : Expr} {te : TE} {lo hi : Option Expr} {tl th : TO} {pos p2 : Pos}
theorem zams : PO X none tNoPart := by
 intro pins s σ H Q I h
 rw [evalPart_none]
 exact wpAny_pure ⟨none, H, I, .none, h⟩
theorem zamt (h : PE X e te) : PO X (some e) (tPart te) := by
 intro pins s σ H Q I hw
 rw [evalPart_some]
 refine thn (h pins s σ H _ I hw) fun u s1 ⟨x, H1, I1, r1, q1⟩ => ?_
 obtain ⟨i, rfl, q⟩ := q1
 obtain ⟨t, rfl⟩ := r1
 exact ⟨some i, H1, I1, .int i t, q⟩
def SlR (X : Cx) (r : V → Option Int → Option Int → Hp → VK → Prop) : Prop :=
 ∀ (pins : List (Addr × Obj)) (s : Shared) (σ : St) (H : Hp) (x : V) (v vl vu : Value) (lo hi : Option Int) (sl : Addr) (Q : VK), Inv X pins σ H s → RelV x v → s.heap.IsSliceOf sl vl vu .none → IsPart vl lo → IsPart vu hi → r x lo hi H Q →
  ∃ T id, typeLookup (.type T) "__getitem__" = pure (some (.builtin id)) ∧ s.TypeIs v T ∧ wpAny (model X.prog X.w) X.A (getItem v (.ref sl)) (EP X pins σ Q) X.xe s
def tSl (r : V → Option Int → Option Int → Hp → VK → Prop) (te : TE) (tl th : TO) : TE := fun σ H Q => te σ H fun x H1 => tl σ H1 fun l H2 => th σ H2 fun u H3 => r x l u H3 Q
theorem zaky {r : V → Option Int → Option Int → Hp → VK → Prop} (hr : SlR X r) (he : PE X e te) (hl : PO X lo tl) (hu : PO X hi th) : PE X (.Subscript e (.Slice lo hi none p2) pos) (tSl r te tl th) := by
 intro pins s σ H Q I h
 refine Subscript_ (thn (he pins s σ H _ I h) fun v s1 ⟨x, H1, I1, r1, q1⟩ => ?_)
 refine wpAny_Slice (thn (hl pins s1 σ H1 _ I1 q1) fun vl s2 ⟨l, H2, I2, pl, q2⟩ => thn (hu pins s2 σ H2 _ I2 q2) fun vu s3 ⟨u, H3, I3, pu, q3⟩ => ?_)
 rw [evalPart_none]
 refine wpAny_pure ?_
 have I4 : Inv X pins σ H3 { s3 with heap := s3.heap.push { cls := .type "slice", data := .fields #[vl, vu, .none] } } := I3.kept (t' := s3.toks) fun b ob q => Heap.get?_push_of_some _ q
 obtain ⟨T, id, hT, ht, hg⟩ := hr pins { s3 with heap := s3.heap.push { cls := .type "slice", data := .fields #[vl, vu, .none] } } σ H3 x v vl vu l u s3.heap.objs.size Q I4 r1 (Heap.IsSliceOf.new ..) pl pu q3
 show wpAny (model X.prog X.w) X.A (subscriptTail e (.Slice lo hi none p2) v (.ref s3.heap.objs.size)) (EP X pins σ Q) X.xe { s3 with heap := s3.heap.push { cls := .type "slice", data := .fields #[vl, vu, .none] } }
 exact tail_any (ops := [.ref s3.heap.objs.size, v]) ht hT hg (by with_unfolding_all rfl)
def cutV (xs : List V) (lo hi : Option Int) : List V := (xs.drop (HT.sIx xs.length 0 lo)).take (HT.sIx xs.length xs.length hi - HT.sIx xs.length 0 lo)
theorem zacb (xs : List V) (lo hi : Option Int) : (cutV xs lo hi).length ≤ xs.length := by
 unfold cutV
 rw [List.length_take, List.length_drop]
 omega
def rSlT (K : PySem.W.Frag) : V → Option Int → Option Int → Hp → VK → Prop := fun x lo hi H Q => ∃ a xs, x = .ref a ∧ SqT K H a xs ∧
 ¬ (HT.sIx xs.length 0 lo = 0 ∧ HT.sIx xs.length xs.length hi = xs.length) ∧ ∀ p, H p = none → Q (.ref p) (upd H p (.tup (cutV xs lo hi)))
theorem zahu : SlR X (rSlT X.K) := by
 intro pins s σ H x v vl vu lo hi sl Q I rx hs pl pu h
 obtain ⟨a, xs, rfl, hx, hw, q⟩ := h
 cases rx
 obtain ⟨its, r, ht, hz⟩ := I.tuple hx
 have hlen : its.toArray.size = xs.length := by rw [List.size_toArray]; exact r.length.symm
 refine ⟨"tuple", _, PyProof.Rows.slot_tuple_getitem.lookup, ht.typeIs, ?_⟩
 refine HT.getItem_tuple_cut ht hs pl pu (by rw [hlen]; exact hw) ?_ (by rw [hlen]; exact hz)
 rw [hlen]
 refine ⟨.ref s.heap.objs.size, _, I.laid (t' := s.toks) (o := .tup (cutV xs lo hi)) (fun b ob q => Heap.get?_push_of_some _ q) (Nat.le_refl _) ?_, rfl, q _ (I.hok.fresh (Nat.le_refl _))⟩
 exact ⟨Nat.le_trans (zacb xs lo hi) hz, _, (r.drop (HT.sIx xs.length 0 lo)).take (HT.sIx xs.length xs.length hi - HT.sIx xs.length 0 lo), IsTup.new _ _⟩
def rLtT (K : PySem.W.Frag) : R2 := fun x y H Q => ∃ a b ns ms, x = .ref a ∧ y = .ref b ∧ SqT K H a (ns.map V.int) ∧ SqT K H b (ms.map V.int) ∧ Q (.bl (HT.lexLt ns ms)) H
def rCatT (K : PySem.W.Frag) : R2 := fun x y H Q => ∃ a b xs ys, x = .ref a ∧ y = .ref b ∧ SqT K H a xs ∧ SqT K H b ys ∧ xs ≠ [] ∧ xs.length + ys.length ≤ sizeLine ∧
 (ys = [] → Q (.ref a) H) ∧ (ys ≠ [] → ∀ p, H p = none → Q (.ref p) (upd H p (.tup (xs ++ ys))))
theorem Vals.nil_iff {xs : List V} {us : List Value} (r : Vals xs us) : us = [] ↔ xs = [] := by
 cases r with
 | nil => simp
 | cons _ _ => simp
theorem zamu : OpR X (binaryOp .Add) (rCatT X.K) := by
 intro pins s σ H x y v u Q I rx ry h
 obtain ⟨a, b, xs, ys, rfl, rfl, ha, hb, hx, hz, q1, q2⟩ := h
 cases rx
 cases ry
 obtain ⟨its, r1, p1, _⟩ := I.tuple ha
 obtain ⟨its2, r2, p2, _⟩ := I.tuple hb
 refine HT.cat_tup p1 p2 (fun z => hx (r1.nil_iff.mp z)) (fun z => ⟨.ref a, H, I, rfl, q1 (r2.nil_iff.mp z)⟩) (fun z => ?_) (by rw [← r1.length, ← r2.length]; exact hz)
 refine ⟨.ref s.heap.objs.size, _, I.laid (t' := s.toks) (o := .tup (xs ++ ys)) (fun b ob q => Heap.get?_push_of_some _ q) (Nat.le_refl _) ?_, rfl, q2 (fun w => z (r2.nil_iff.mpr w)) _ (I.hok.fresh (Nat.le_refl _))⟩
 exact ⟨by rw [List.length_append]; exact hz, _, r1.append r2, IsTup.new _ _⟩
end
def ixN (n : Nat) (i : Int) : Option Nat := if 0 ≤ i then (if i < n then some i.toNat else none) else if -(n : Int) ≤ i then some (i + n).toNat else none
def atI {α : Type} (xs : List α) (i : Int) : Option α := (ixN xs.length i).bind fun j => xs[j]?
theorem zajc {n : Nat} {i : Int} {j : Nat} (h : ixN n i = some j) : seqIndex? i n = some j ∧ j < n ∧ -(n : Int) ≤ i ∧ i < n := by
 unfold ixN at h
 by_cases h0 : 0 ≤ i
 ·rw [if_pos h0] at h
  by_cases h1 : i < n
  ·rw [if_pos h1] at h
   have e : i.toNat = j := Option.some.inj h
   exact ⟨by rw [seqIndex_of h0 h1, e], by omega, by omega, h1⟩
  ·rw [if_neg h1] at h; cases h
 ·rw [if_neg h0] at h
  by_cases h1 : -(n : Int) ≤ i
  ·rw [if_pos h1] at h
   have e : (i + n).toNat = j := Option.some.inj h
   exact ⟨by rw [seqIndex_neg (by omega) h1, e], by omega, h1, by omega⟩
  ·rw [if_neg h1] at h; cases h
theorem zajd {α : Type} {xs : List α} {i : Int} {v : α} (h : atI xs i = some v) : ∃ j, seqIndex? i xs.length = some j ∧ xs[j]? = some v ∧ j < xs.length ∧ -(xs.length : Int) ≤ i ∧ i < xs.length := by
 unfold atI at h
 cases e : ixN xs.length i with
 | none => rw [e] at h; cases h
 | some j =>
  rw [e] at h
  obtain ⟨h1, h2, h3, h4⟩ := zajc e
  exact ⟨j, h1, h, h2, h3, h4⟩
theorem zadf {α : Type} {xs : List α} {j : Nat} {v : α} (h : xs[j]? = some v) : atI xs (j : Int) = some v := by
 have hj : j < xs.length := (List.getElem?_eq_some_iff.mp h).1
 have e : ixN xs.length (j : Int) = some j := by
  unfold ixN
  rw [if_pos (by omega), if_pos (by omega)]; simp
 unfold atI; rw [e]; exact h
def PlainIx (b : Expr) : Prop := ∀ o i, subscripted b false o i = operate [o, i] (getItem o i)
def IxR (X : Cx) (r : R2) : Prop :=
 ∀ (value slice : Expr) (pins : List (Addr × Obj)) (s : Shared) (σ : St) (H : Hp) (x y : V) (v u : Value) (Q : VK), Inv X pins σ H s → RelV x v → RelV y u → r x y H Q →
  subscripted slice false v u = operate [v, u] (getItem v u) → wpAny (model X.prog X.w) X.A (subscriptTail value slice v u) (EP X pins σ Q) X.xe s
def MtR (X : Cx) (id : String) (r : V → List V → Hp → VK → Prop) : Prop :=
 ∀ (pins : List (Addr × Obj)) (s : Shared) (σ : St) (H : Hp) (x : V) (xs : List V) (v : Value) (us : List Value) (Q : VK), Inv X pins σ H s → RelV x v → Vals xs us → r x xs H Q →
  wpAny (model X.prog X.w) X.A (call (.builtin id) (v :: us)) (EP X pins σ Q) X.xe s
section
variable {X : Cx} {a b : Expr} {ta tb : TE} {pos : Pos}
theorem zapw {r : R2} (hr : IxR X r) (ha : PE X a ta) (hb : PE X b tb) (hs : PlainIx b) : PE X (.Subscript a b pos) (tOp r ta tb) := by
 intro pins s σ H Q I h
 exact Subscript_ (binT ha hb I h fun v u s2 x y H2 I2 rx ry q => hr a b pins s2 σ H2 x y v u Q I2 rx ry q (hs _ _))
def rIxL (K : PySem.W.Frag) : R2 := fun x y H Q => ∃ p xs i v, x = .ref p ∧ y = .int i ∧ SqL K H p xs ∧ atI xs i = some v ∧ Q v H
def rIxT (K : PySem.W.Frag) : R2 := fun x y H Q => ∃ p xs i v, x = .ref p ∧ y = .int i ∧ SqT K H p xs ∧ atI xs i = some v ∧ Q v H
def rIxS : R2 := fun x y H Q => ∃ z i c, x = .str z ∧ y = .int i ∧ z.length ≤ sizeLine ∧ atI z.cps.toList i = some c ∧ Q (.str ⟨#[c]⟩) H
theorem zamv : IxR X (rIxL X.K) := by
 intro value slice pins s σ H x y v u Q I rx ry h hs
 obtain ⟨p, xs, i, z, rfl, rfl, hq, he, q⟩ := h
 cases rx
 obtain ⟨t, rfl⟩ := ry
 obtain ⟨its, r, pl, hz⟩ := I.list hq
 obtain ⟨j, h1, h2, h3, h4, h5⟩ := zajd he
 obtain ⟨w, ew, rw'⟩ := r.get h2
 have hl := r.length
 have hn := line63
 have fin : EP X pins σ Q w s := ⟨z, H, I, rw', q⟩
 by_cases h0 : 0 ≤ i
 ·have hj : i.toNat = j := by
   rw [seqIndex_of h0 h5] at h1
   exact Option.some.inj h1
  exact item_listR pl.isList h0 (by omega) (by rw [hj]; simpa using ew) fin hs
 ·have hj : (i + (its.toArray.size : Int)).toNat = j := by
   rw [seqIndex_neg (by omega) h4] at h1
   rw [List.size_toArray, ← hl]
   exact Option.some.inj h1
  exact subscriptTail_builtinR (x := w) pl.isList.typeIs slot_list_getitem.lookup
   (wpAny_getItem_list_neg (Q := fun r s' => r = w ∧ EP X pins σ Q r s') pl.isList (by omega) (by rw [List.size_toArray] <;> omega) (by omega) (by rw [hj]; simpa using ew) ⟨rfl, fin⟩) hs
theorem zaot : IxR X (rIxT X.K) := by
 intro value slice pins s σ H x y v u Q I rx ry h hs
 obtain ⟨p, xs, i, z, rfl, rfl, hq, he, q⟩ := h
 cases rx
 obtain ⟨t, rfl⟩ := ry
 obtain ⟨its, r, pl, hz⟩ := I.tuple hq
 obtain ⟨j, h1, h2, h3, h4, h5⟩ := zajd he
 obtain ⟨w, ew, rw'⟩ := r.get h2
 have hl := r.length
 have hn := line63
 have fin : EP X pins σ Q w s := ⟨z, H, I, rw', q⟩
 exact subscriptTail_builtinR (x := w) pl.typeIs slot_tuple_getitem.lookup
  (getItem_tuple (j := j) (Q := fun r s' => r = w ∧ EP X pins σ Q r s') pl (by omega) (by omega) (by rw [List.size_toArray, ← hl]; exact h1) (by simpa using ew) ⟨rfl, fin⟩) hs
def rIx (K : PySem.W.Frag) : R2 := fun x y H Q => rIxL K x y H Q ∨ rIxT K x y H Q ∨ rIxS x y H Q
theorem zaik (its : List Value) (n j : Nat) (u : Value) : Obj.mapSeq (·.setIfInBounds j u) { cls := .type "list", data := .seq its.toArray n } = { cls := .type "list", data := .seq (its.set j u).toArray n } := by
 simp [Obj.mapSeq]
theorem Inv.lst {pins : List (Addr × Obj)} {σ : St} {H : Hp} {s : Shared} {p : Addr} {xs : List V} (I : Inv X pins σ H s) (h : H p = some (.lst xs)) :
  ∃ (its : List Value) (n : Nat), Vals xs its ∧ s.heap.get? p = some { cls := .type "list", data := .seq its.toArray n } ∧ xs.length ≤ sizeLine := by
 obtain ⟨z, its, n, r, e⟩ := I.hok p _ h
 exact ⟨its, n, r, e, z⟩
theorem Inv.lstUpd {pins : List (Addr × Obj)} {σ : St} {H : Hp} {s : Shared} {p : Addr} {xs ys : List V} {its its' : List Value} {n n' : Nat} {f : Obj → Obj} (I : Inv X pins σ H s) (h : H p = some (.lst xs))
  (ho : s.heap.get? p = some { cls := .type "list", data := .seq its.toArray n }) (hf : f { cls := .type "list", data := .seq its.toArray n } = { cls := .type "list", data := .seq its'.toArray n' }) (r : Vals ys its') (hz : ys.length ≤ sizeLine) (t : Nat) :
  Inv X pins σ (upd H p (.lst ys)) { s with heap := s.heap.update p f, toks := t } := by
 have e : (s.heap.update p f).get? p = some { cls := .type "list", data := .seq its'.toArray n' } := by
  rw [Heap.get?_update_self f ho (by rw [hf] <;> rfl), hf]
 refine I.write (x := p) (e := p) (by rw [h]; trivial) (.inl rfl) (fun b u hb q => (Heap.get?_update_other _ _ (Ne.symm hb)).trans q) ⟨_, e⟩ ?_
 exact ⟨hz, its', n', r, e⟩
def rSetL : V → V → V → Hp → (Hp → Prop) → Prop := fun o i v H Q => ∃ p xs k j, o = .ref p ∧ i = .int k ∧ H p = some (.lst xs) ∧ ixN xs.length k = some j ∧ Q (upd H p (.lst (xs.set j v)))
theorem zafd : PSet X rSetL := by
 intro pins s σ H o i v ov iv u Q I ro ri rv h
 obtain ⟨p, xs, k, j, rfl, rfl, hp, hj, q⟩ := h
 cases ro
 obtain ⟨t, rfl⟩ := ri
 obtain ⟨its, n, r, ho, hz⟩ := I.lst hp
 obtain ⟨h1, h2, h3, h4⟩ := zajc hj
 have hl := r.length
 have hn := line63
 have I' : Inv X pins σ (upd H p (.lst (xs.set j v))) { s with heap := s.heap.update p (Obj.mapSeq (·.setIfInBounds j u)) } :=
  I.lstUpd hp ho (zaik its n j u) (r.set rv j) (by rw [List.length_set]; exact hz) s.toks
 by_cases h0 : 0 ≤ k
 ·have hk : k.toNat = j := by
   rw [seqIndex_of h0 h4] at h1
   exact Option.some.inj h1
  exact PySem.W.ki_setAt ho h0 (by omega) (by rw [List.size_toArray, ← hl]; exact h4) (by rw [hk]; exact ⟨_, I', q⟩)
 ·have hk : (k + (its.toArray.size : Int)).toNat = j := by
   rw [seqIndex_neg (by omega) h3] at h1
   rw [List.size_toArray, ← hl]
   exact Option.some.inj h1
  exact PySem.W.ki_setBack ho (by omega) (by rw [List.size_toArray, ← hl]; exact h3) (by omega) (by rw [hk]; exact ⟨_, I', q⟩)
theorem zagj (lo hi : Option Int) (n : Nat) : (sliceBounds lo hi none n).1 = ((HT.sIx n 0 lo : Nat) : Int) ∧ (sliceBounds lo hi none n).2.1 = ((HT.sIx n n hi : Nat) : Int) ∧ (sliceBounds lo hi none n).2.2 = 1 := by
 refine ⟨?_, ?_, rfl⟩
 ·cases lo with
  | none => simp [sliceBounds, HT.sIx]
  | some i =>
   simp only [sliceBounds, HT.sIx, Option.getD_none, show (1 : Int) > 0 by decide, if_true]
   by_cases h : i < 0
   ·simp only [h, if_true] <;> omega
   ·simp only [h, if_false] <;> omega
 ·cases hi with
  | none => simp [sliceBounds, HT.sIx]
  | some i =>
   simp only [sliceBounds, HT.sIx, Option.getD_none, show (1 : Int) > 0 by decide, if_true]
   by_cases h : i < 0
   ·simp only [h, if_true] <;> omega
   ·simp only [h, if_false] <;> omega
theorem zafe (its : List Value) (lo hi : Option Int) : slicePick its.toArray lo hi none = ((its.drop (HT.sIx its.length 0 lo)).take (HT.sIx its.length its.length hi - HT.sIx its.length 0 lo)).toArray := by
 obtain ⟨h1, h2, h3⟩ := zagj lo hi its.toArray.size
 unfold slicePick
 rw [h1, h2, h3]
 simp only [sliceRange_one, pick_run, List.size_toArray] <;> rfl
def rSlL (K : PySem.W.Frag) : V → Option Int → Option Int → Hp → VK → Prop := fun x lo hi H Q => ∃ a xs, x = .ref a ∧ SqL K H a xs ∧ ∀ p, H p = none → Q (.ref p) (upd H p (.lst (cutV xs lo hi)))
theorem zaff : SlR X (rSlL X.K) := by
 intro pins s σ H x v vl vu lo hi sl Q I rx hs pl pu h
 obtain ⟨a, xs, rfl, hx, q⟩ := h
 cases rx
 obtain ⟨its, r, ht, hz⟩ := I.list hx
 have hlen := r.length
 refine ⟨"list", _, slot_list_getitem.lookup, ht.isList.typeIs, ?_⟩
 refine wpAny_getItem_list_slice ht.isList hs pl pu .none (by simp) ?_ (by rw [List.size_toArray] <;> omega)
 rw [zafe, ← hlen]
 refine ⟨.ref s.heap.objs.size, _, I.laid (t' := s.toks) (o := .lst (cutV xs lo hi)) (fun b ob q => Heap.get?_push_of_some _ q) (Nat.le_refl _) ?_, rfl, q _ (I.hok.fresh (Nat.le_refl _))⟩
 exact ⟨Nat.le_trans (zacb xs lo hi) hz, _, 0, (r.drop (HT.sIx xs.length 0 lo)).take (HT.sIx xs.length xs.length hi - HT.sIx xs.length 0 lo), Heap.get?_push_size _ rfl⟩
def flatV : V → Bool
 | .non => true
 | .bl _ => true
 | .int _ => true
 | .str _ => true
 | _ => false
def eqV : V → V → Bool
 | .non, .non => true
 | .bl a, .bl b => a == b
 | .bl a, .int b => (if a then 1 else 0) == b
 | .int a, .bl b => a == (if b then 1 else 0)
 | .int a, .int b => a == b
 | .str a, .str b => a == b
 | _, _ => false
theorem zaou {A : Around} {s : Shared} {y x : V} {u v : Value} (ry : RelV y u) (rx : RelV x v) (fy : flatV y = true) (fx : flatV x = true) : SeqAt.EqAt A s u v (eqV y x) := by
 cases y with
 | non =>
  cases ry
  cases x with
  | non => cases rx; exact SeqAt.EqAt.same _
  | bl b => cases rx; exact SeqAt.EqAt.none_bool b
  | int b => obtain ⟨t, rfl⟩ := rx; exact SeqAt.EqAt.none_int b t
  | str b => obtain ⟨t, rfl⟩ := rx; exact SeqAt.EqAt.none_str b t
  | _ => exact absurd (show false = true from fx) Bool.false_ne_true
 | bl a =>
  cases ry
  cases x with
  | non => cases rx; exact SeqAt.EqAt.bool_none a
  | bl b => cases rx; exact SeqAt.EqAt.bool_bool a b
  | int b => obtain ⟨t, rfl⟩ := rx; exact SeqAt.EqAt.bool_int a b t
  | str b => obtain ⟨t, rfl⟩ := rx; exact SeqAt.EqAt.bool_str a b t
  | _ => exact absurd (show false = true from fx) Bool.false_ne_true
 | int a =>
  obtain ⟨t', rfl⟩ := ry
  cases x with
  | non => cases rx; exact SeqAt.EqAt.int_none a t'
  | bl b => cases rx; exact SeqAt.EqAt.int_bool a t' b
  | int b => obtain ⟨t, rfl⟩ := rx; exact SeqAt.EqAt.int_int a t' b t
  | str b => obtain ⟨t, rfl⟩ := rx; exact SeqAt.EqAt.int_str a t' b t
  | _ => exact absurd (show false = true from fx) Bool.false_ne_true
 | str a =>
  obtain ⟨t', rfl⟩ := ry
  cases x with
  | non => cases rx; exact SeqAt.EqAt.str_none a t'
  | bl b => cases rx; exact SeqAt.EqAt.str_bool a t' b
  | int b => obtain ⟨t, rfl⟩ := rx; exact SeqAt.EqAt.str_int a t' b t
  | str b => obtain ⟨t, rfl⟩ := rx; exact SeqAt.EqAt.str_str a t' b t
  | _ => exact absurd (show false = true from fx) Bool.false_ne_true
 | _ => exact absurd (show false = true from fy) Bool.false_ne_true
def eqU (x : V) (u : Value) : Bool := match u with
 | .none => eqV .non x
 | .bool b => eqV (.bl b) x
 | .int i _ => eqV (.int i) x
 | .str z _ => eqV (.str z) x
 | _ => false
theorem zal3 {x y : V} {u : Value} (r : RelV y u) (f : flatV y = true) : eqU x u = eqV y x := by
 cases y with
 | non => cases r; rfl
 | bl b => cases r; rfl
 | int i => obtain ⟨t, rfl⟩ := r; rfl
 | str z => obtain ⟨t, rfl⟩ := r; rfl
 | _ => exact absurd (show false = true from f) Bool.false_ne_true
theorem zaem {x : V} : ∀ {xs : List V} {us : List Value}, Vals xs us → xs.all flatV = true → us.any (eqU x) = xs.any fun y => eqV y x
 | _, _, .nil, _ => rfl
 | y :: xs, u :: us, .cons r t, f => by
  rw [List.all_cons, Bool.and_eq_true] at f
  rw [List.any_cons, List.any_cons, zal3 r f.1, zaem t f.2]
theorem zadj {A : Around} {s : Shared} {x : V} {v : Value} (rx : RelV x v) (fx : flatV x = true) : ∀ {xs : List V} {us : List Value}, Vals xs us → xs.all flatV = true → ∀ u ∈ us, SeqAt.EqAt A s u v (eqU x u)
 | _, _, .nil, _ => fun u hu => by cases hu
 | y :: xs, u :: us, .cons r t, f => fun u' hu => by
  rw [List.all_cons, Bool.and_eq_true] at f
  rcases List.mem_cons.mp hu with rfl | hu
  ·rw [zal3 r f.1]; exact zaou r rx f.1 fx
  ·exact zadj rx fx t f.2 u' hu
def inV (x : V) (xs : List V) : Bool := xs.any fun y => eqV y x
def rIn (K : PySem.W.Frag) (neg : Bool) : R2 := fun x y H Q => ∃ p xs, y = .ref p ∧ (SqL K H p xs ∨ SqT K H p xs) ∧ flatV x = true ∧ xs.all flatV = true ∧ Q (.bl (if neg then !inV x xs else inV x xs)) H
theorem zaje : OpR X (compareOp .In) (rIn X.K false) := by
 intro pins s σ H x y v u Q I rx ry h
 obtain ⟨p, xs, rfl, hq, fx, fs, q⟩ := h
 cases ry
 rcases hq with hq | hq
 ·obtain ⟨its, r, pl, hz⟩ := I.list hq
  refine SeqAt.in_listAt (eqU x) pl.isList (fun w hw => zadj rx fx r fs w (by simpa using hw)) ⟨.bl _, H, I, rfl, ?_⟩
  rw [show its.toArray.any (eqU x) = its.any (eqU x) by simp, zaem r fs]
  exact q
 ·obtain ⟨its, r, pl, hz⟩ := I.tuple hq
  refine SeqAt.in_tupleAt (eqU x) pl (fun w hw => zadj rx fx r fs w (by simpa using hw)) ⟨.bl _, H, I, rfl, ?_⟩
  rw [show its.toArray.any (eqU x) = its.any (eqU x) by simp, zaem r fs]
  exact q
theorem zaeb : OpR X (compareOp .NotIn) (rIn X.K true) := by
 intro pins s σ H x y v u Q I rx ry h
 obtain ⟨p, xs, rfl, hq, fx, fs, q⟩ := h
 cases ry
 rcases hq with hq | hq
 ·obtain ⟨its, r, pl, hz⟩ := I.list hq
  refine SeqAt.notIn_listAt (eqU x) pl.isList (fun w hw => zadj rx fx r fs w (by simpa using hw)) ⟨.bl _, H, I, rfl, ?_⟩
  rw [show its.toArray.any (eqU x) = its.any (eqU x) by simp, zaem r fs]
  exact q
 ·obtain ⟨its, r, pl, hz⟩ := I.tuple hq
  refine SeqAt.notIn_tupleAt (eqU x) pl (fun w hw => zadj rx fx r fs w (by simpa using hw)) ⟨.bl _, H, I, rfl, ?_⟩
  rw [show its.toArray.any (eqU x) = its.any (eqU x) by simp, zaem r fs]
  exact q
theorem zaal : CallR X (.builtin "len") (fun xs H Q => ∃ p ys, xs = [.ref p] ∧ (SqL X.K H p ys ∨ SqT X.K H p ys) ∧ Q (.int ys.length) H) := by
 intro pins s σ H xs us Q I r h
 obtain ⟨p, ys, rfl, hq, q⟩ := h
 obtain ⟨u, rfl, rx⟩ := vals1 r
 cases rx
 have hn := line63
 rcases hq with hq | hq
 ·obtain ⟨its, r', pl, hz⟩ := I.list hq
  have hlen := r'.length
  exact Calls.call_len_list pl.isList (by simp only [List.size_toArray] <;> omega) ⟨.int ys.length, H, I.tok _, ⟨s.toks + 1, by rw [List.size_toArray, hlen]⟩, q⟩
 ·obtain ⟨its, r', pl, hz⟩ := I.tuple hq
  have hlen := r'.length
  exact len_tuple pl (by simp only [List.size_toArray] <;> omega) ⟨.int ys.length, H, I.tok _, ⟨s.toks + 1, by rw [List.size_toArray, hlen]⟩, q⟩
theorem zacg : CallR X (.type "list") (fun xs H Q => ∃ p ys, xs = [.ref p] ∧ (SqL X.K H p ys ∨ SqT X.K H p ys) ∧ ∀ l, H l = none → Q (.ref l) (upd H l (.lst ys))) := by
 intro pins s σ H xs us Q I r h
 obtain ⟨p, ys, rfl, hq, q⟩ := h
 obtain ⟨u, rfl, rx⟩ := vals1 r
 cases rx
 have fin : ∀ (its : List Value), Vals ys its → ys.length ≤ sizeLine → ∀ (h' : Heap) (c' : Nat), (∀ b o', s.heap.get? b = some o' → h'.get? b = some o') →
   h'.get? s.heap.objs.size = some { cls := .type "list", dict := none, data := .seq its.toArray c', slots := #[] } → EP X pins σ Q (.ref s.heap.objs.size) { s with heap := h' } := fun its r' hz h' c' kp e =>
  ⟨.ref s.heap.objs.size, _, I.laid (t' := s.toks) kp (Nat.le_refl _) (show ObjOk X.prog X.w _ h' _ (.lst ys) from ⟨hz, its, c', r', e⟩), rfl, q _ (I.hok.fresh (Nat.le_refl _))⟩
 rcases hq with hq | hq
 ·obtain ⟨its, r', pl, hz⟩ := I.list hq
  have hlen := r'.length
  obtain ⟨o, ho, hc, n, hd⟩ := pl.isList
  exact call_list_seq p (.inl rfl) ho hc hd (fun h' c' kp e => fin its r' hz h' c' kp e) (by simp only [List.size_toArray] <;> omega)
 ·obtain ⟨its, r', pl, hz⟩ := I.tuple hq
  have hlen := r'.length
  obtain ⟨o, ho, hc, n, hd⟩ := pl
  exact call_list_seq p (.inr rfl) ho hc hd (fun h' c' kp e => fin its r' hz h' c' kp e) (by simp only [List.size_toArray] <;> omega)
theorem zabw : CallR X (.type "tuple") (fun xs H Q => ∃ p ys, xs = [.ref p] ∧ ((SqL X.K H p ys ∧ ∀ l, H l = none → Q (.ref l) (upd H l (.tup ys))) ∨ (SqT X.K H p ys ∧ Q (.ref p) H))) := by
 intro pins s σ H xs us Q I r h
 obtain ⟨p, ys, rfl, h⟩ := h
 obtain ⟨u, rfl, rx⟩ := vals1 r
 cases rx
 rcases h with ⟨hq, q⟩ | ⟨hq, q⟩
 ·obtain ⟨its, r', pl, hz⟩ := I.list hq
  have hlen := r'.length
  refine call_tuple_list pl.isList (fun h' kp => ?_) (by simp only [List.size_toArray] <;> omega)
  have I1 : Inv X pins σ H { s with heap := h' } := I.kept (t' := s.toks) kp
  have I2 : Inv X pins σ (upd H h'.objs.size (.tup ys)) { s with heap := h'.push { cls := .type "tuple", data := .seq its.toArray } } :=
   I1.laid (t' := s.toks) (fun b o e => Heap.get?_push_of_some _ e) (Nat.le_refl _) (show ObjOk X.prog X.w _ _ _ (.tup ys) from ⟨hz, its, r', IsTup.new _ _⟩)
  exact ⟨.ref h'.objs.size, _, I2, rfl, q _ (I1.hok.fresh (Nat.le_refl _))⟩
 ·obtain ⟨its, r', pl, hz⟩ := I.tuple hq
  exact call_tuple_same pl ⟨.ref p, H, I, rfl, q⟩
def tyV (K : PySem.W.Frag) (T : String) (x : V) (H : Hp) : Prop := match x with
 | .str _ => T = "str"
 | .int _ => T = "int"
 | .ref p => (T = "list" ∧ ∃ xs, SqL K H p xs) ∨ (T = "tuple" ∧ ∃ o, K.lookup p = some o ∧ o.cls = .type "tuple" ∧ o.dict = none) ∨
   (T = "dict" ∧ ((∃ kvs, H p = some (.dK kvs)) ∨ ∃ kvs, H p = some (.dT kvs))) ∨ (T = "set" ∧ ∃ S n, H p = some (.set S n))
 | _ => False
theorem zaov {pins : List (Addr × Obj)} {σ : St} {H : Hp} {s : Shared} {T : String} {x : V} {v : Value} (I : Inv X pins σ H s) (r : RelV x v) (ty : tyV X.K T x H) :
  s.TypeIs v T ∧ ∀ a, v = .ref a → ∃ ob, s.heap.get? a = some ob ∧ ob.dict = none := by
 cases x with
 | str z =>
  obtain ⟨t, rfl⟩ := r
  cases (show T = "str" from ty)
  exact ⟨typeIs_str s z t, fun _ e => nomatch e⟩
 | int i =>
  obtain ⟨t, rfl⟩ := r
  cases (show T = "int" from ty)
  exact ⟨typeIs_int s i t, fun _ e => nomatch e⟩
 | ref p =>
  cases r
  rcases ty with ⟨rfl, xs, hq⟩ | ⟨rfl, o, hk, hc, hd⟩ | ⟨rfl, hk⟩ | ⟨rfl, S, n, hk⟩
  ·obtain ⟨its, _, pl, _⟩ := I.list hq
   refine ⟨pl.isList.typeIs, fun a e => ?_⟩
   cases e
   obtain ⟨o, n, e, c, hd, _⟩ := pl
   exact ⟨o, e, hd⟩
  ·refine ⟨⟨o, I.kIn p o hk, hc⟩, fun a e => ?_⟩
   cases e
   exact ⟨o, I.kIn _ o hk, hd⟩
  ·have z : ∃ o, s.heap.get? p = some o ∧ o.ExactDict := by
    rcases hk with ⟨kvs, hk⟩ | ⟨kvs, hk⟩
    ·obtain ⟨_, _, _, _, o, _, _, e, ex, _⟩ := I.hok p _ hk
     exact ⟨o, e, ex⟩
    ·obtain ⟨_, _, _, _, o, _, _, e, ex, _⟩ := I.hok p _ hk
     exact ⟨o, e, ex⟩
   obtain ⟨o, e, ex⟩ := z
   refine ⟨⟨o, e, ex.1⟩, fun a e2 => ?_⟩
   cases e2
   exact ⟨o, e, ex.2.1⟩
  ·obtain ⟨o, _, _, _, e, ex, _⟩ := I.hok p _ hk
   refine ⟨⟨o, e, ex.1⟩, fun a e2 => ?_⟩
   cases e2
   exact ⟨o, e, ex.2.1⟩
 | _ => exact False.elim ty
def tBM0 (K : PySem.W.Frag) (T : String) (r : V → List V → Hp → VK → Prop) (to : TE) : TE := fun σ H Q => to σ H fun x H1 => tyV K T x H1 ∧ r x [] H1 Q
def tBM (K : PySem.W.Frag) (T : String) (r : V → List V → Hp → VK → Prop) (to : TE) (t : TA) : TE := fun σ H Q => to σ H fun x H1 => tyV K T x H1 ∧ t σ H1 fun xs H2 => r x xs H2 Q
variable {o e : Expr} {es : List Expr} {to : TE} {t : TA} {name : Str} {apos cpos : Pos} {T id : String} {r : V → List V → Hp → VK → Prop}
theorem zapx (pa : PlainAttrs T) (slot : Slot T name id) (hty : typeOf (.builtin id) = pure (.type "method_descriptor")) (hm : MtR X id r) (ho : PE X o to) (ha : PA X (e :: es) t)
  (hbase : attributeBase o name X.env (eval o X.env) = eval o X.env := by rfl)
  (hfew : ((backTo cpos (starEach (e :: es) X.env)).all (fun x => !x.1) && (backToKw cpos (keywordEach [] X.env)).all (fun x => x.1.isSome)
   && decide ((e :: es).length + ([] : List Keyword).length + (if ([] : List Keyword).isEmpty then 0 else 1) < 30)) = true := by rfl)
  (hline : (apos.endLine == cpos.line) = true := by rfl) (hs : starEach (e :: es) X.env = (false, eval e X.env) :: starEach es X.env := by rfl) (hplain : (backTo cpos (starEach es X.env)).any (·.1) = false := by rfl) :
  PE X (.Call (.Attribute o name apos) (e :: es) [] cpos) (tBM X.K T r to t) := by
 intro pins s σ H Q I h
 refine wpAny_Call_method_late hbase hfew hline rfl (thn (ho pins s σ H _ I h) fun v s1 ⟨x, H1, I1, r1, ty, q1⟩ => ?_)
 obtain ⟨h1, h2⟩ := zaov I1 r1 ty
 refine ⟨T, id, pa, slot, hty, h1, h2, ?_⟩
 have hA := ha cpos pins s1 σ H1 _ I1 q1
 rw [hs] at hA ⊢
 refine Calls.callWith_builtin (by show (false || (backTo cpos (starEach es X.env)).any (·.1)) = false; rw [hplain] <;> rfl) (Calls.evalArgs_plain ?_)
 exact thn hA fun us s2 ⟨vs, H2, I2, r2, q2⟩ => hm pins s2 σ H2 x vs v us Q I2 r1 r2 q2
end
def MtM (X : Cx) (id : String) (r : V → List V → Hp → VK → Prop) : Prop :=
 ∀ (pins : List (Addr × Obj)) (s : Shared) (σ : St) (H : Hp) (x : V) (xs : List V) (v : Value) (us : List Value) (Q : VK), Inv X pins σ H s → RelV x v → Vals xs us → r x xs H Q →
  wpAny (model X.prog X.w) X.A (call (.builtin id) (v :: us)) (EP X pins σ Q) X.xe s
theorem Vals.one : ∀ {x : V} {us : List Value}, Vals [x] us → ∃ u, us = [u] ∧ RelV x u
 | _, _, .cons r .nil => ⟨_, rfl, r⟩
theorem Vals.rep {xs : List V} {us : List Value} (h : Vals xs us) : ∀ k : Nat, Vals (List.replicate k xs).flatten (List.replicate k us).flatten
 | 0 => .nil
 | k + 1 => by
  rw [List.replicate_succ, List.replicate_succ, List.flatten_cons, List.flatten_cons]
  exact Vals.append h (Vals.rep h k)
theorem zagk (its : List Value) : ∀ (k : Nat) (acc : List Value),
  List.foldl (fun x1 x2 => x1 ++ x2) acc.toArray (List.replicate k its.toArray) = (acc ++ (List.replicate k its).flatten).toArray
 | 0, acc => by simp
 | k + 1, acc => by
  have e : acc.toArray ++ its.toArray = (acc ++ its).toArray := by simp
  have e2 : (acc ++ its) ++ (List.replicate k its).flatten = acc ++ (List.replicate (k + 1) its).flatten := by
   rw [List.replicate_succ, List.flatten_cons, List.append_assoc]
  rw [← e2, ← zagk its k (acc ++ its), ← e, List.replicate_succ, List.foldl_cons]
section
variable {X : Cx} {pins : List (Addr × Obj)} {σ : St} {H : Hp} {s : Shared} {l b : Addr} {xs ys zs : List V}
theorem Inv.lset {its its' : List Value} {n : Nat} {f : Array Value → Array Value} {t' : Nat} (I : Inv X pins σ H s) (hH : H l = some (.lst xs))
  (e : s.heap.get? l = some { cls := .type "list", data := .seq its.toArray n }) (hf : f its.toArray = its'.toArray) (hv : Vals ys its') (hz : ys.length ≤ sizeLine) :
  Inv X pins σ (upd H l (.lst ys)) { s with heap := s.heap.update l (Obj.mapSeq f), toks := t' } := by
 have q := PySem.IsL.update e f
 rw [hf] at q
 refine I.write (x := l) (e := l) (by rw [hH]; exact trivial) (.inl rfl) (fun b' u hb hu => (Heap.get?_update_other s.heap (Obj.mapSeq f) (Ne.symm hb)).trans hu) ⟨_, q⟩ ?_
 exact ⟨hz, its', _, hv, q⟩
theorem Inv.lnew {its : List Value} {t' : Nat} (I : Inv X pins σ H s) (hv : Vals ys its) (hz : ys.length ≤ sizeLine) :
  Inv X pins σ (upd H s.heap.objs.size (.lst ys)) { s with heap := s.heap.push { cls := .type "list", data := .seq its.toArray }, toks := t' } :=
 I.laid (fun _ _ q => Heap.get?_push_of_some _ q) (Nat.le_refl _) ⟨hz, its, 0, hv, Heap.get?_push_size _ rfl⟩
theorem Inv.fresh (I : Inv X pins σ H s) : H s.heap.objs.size = none := I.hok.fresh (Nat.le_refl _)
theorem Inv.lstM (I : Inv X pins σ H s) (hH : H l = some (.lst xs)) : xs.length ≤ sizeLine ∧ ∃ (its : List Value) (n : Nat), Vals xs its ∧ xs.length = its.length ∧ s.heap.get? l = some { cls := .type "list", data := .seq its.toArray n } := by
 obtain ⟨z, its, n, r, e⟩ := I.hok l _ hH
 exact ⟨z, its, n, r, r.length, e⟩
theorem notLongL {n : Nat} (h : n ≤ sizeLine) : Builtin.List.listTooLong n = false := by
 unfold Builtin.List.listTooLong
 exact decide_eq_false (by omega)
end
section
variable {X : Cx}
def rAppend : V → List V → Hp → VK → Prop := fun x vs H Q => ∃ l xs y, x = .ref l ∧ vs = [y] ∧ H l = some (.lst xs) ∧ xs.length < sizeLine ∧ Q .non (upd H l (.lst (xs ++ [y])))
theorem zach : MtM X "list.append" rAppend := by
 intro pins s σ H x vs v us Q I rx rv h
 obtain ⟨l, xs, y, rfl, rfl, hH, hz, q⟩ := h
 cases rx
 obtain ⟨u, rfl, ru⟩ := rv.one
 obtain ⟨z, its, n, r, hl, e⟩ := I.lstM hH
 refine call_meets F.slot_list_append ⟨_, e, rfl⟩ F.entry_list_append (F.args_list_append_2 _ _) (PySem.list_append l its.toArray n u (by rw [List.size_toArray]; omega)) ⟨e, ?_⟩
 refine ⟨.non, _, I.lset (its' := its ++ [u]) hH e (by simp) (r.append (.cons ru .nil)) ?_, rfl, q⟩
 rw [List.length_append, List.length_singleton]
 omega
def rExtend : V → List V → Hp → VK → Prop := fun x vs H Q => ∃ l b xs zs, x = .ref l ∧ vs = [.ref b] ∧ H l = some (.lst xs) ∧ H b = some (.lst zs) ∧ xs.length + zs.length ≤ sizeLine ∧ Q .non (upd H l (.lst (xs ++ zs)))
def rPop : V → List V → Hp → VK → Prop := fun x vs H Q => ∃ l xs y, x = .ref l ∧ vs = [] ∧ H l = some (.lst xs) ∧ xs[xs.length - 1]? = some y ∧ Q y (upd H l (.lst xs.dropLast))
def rPopAt : V → List V → Hp → VK → Prop := fun x vs H Q => ∃ l xs i k y, x = .ref l ∧ vs = [.int i] ∧ H l = some (.lst xs) ∧ -(2 ^ 63) ≤ i ∧ i < 2 ^ 63 ∧ seqIndex? i xs.length = some k ∧ xs[k]? = some y ∧ Q y (upd H l (.lst (xs.eraseIdx k)))
def rReverse : V → List V → Hp → VK → Prop := fun x vs H Q => ∃ l xs, x = .ref l ∧ vs = [] ∧ H l = some (.lst xs) ∧ Q .non (upd H l (.lst xs.reverse))
def rClear : V → List V → Hp → VK → Prop := fun x vs H Q => ∃ l xs, x = .ref l ∧ vs = [] ∧ H l = some (.lst xs) ∧ Q .non (upd H l (.lst []))
def rCat : R2 := fun x y H Q => ∃ l b xs zs, x = .ref l ∧ y = .ref b ∧ H l = some (.lst xs) ∧ H b = some (.lst zs) ∧ xs.length + zs.length ≤ sizeLine ∧ ∀ p, H p = none → Q (.ref p) (upd H p (.lst (xs ++ zs)))
theorem zac7 : OpR X (binaryOp .Add) rCat := by
 intro pins s σ H x y v u Q I rx ry h
 obtain ⟨l, b, xs, zs, rfl, rfl, hH, hB, hz, q⟩ := h
 cases rx
 cases ry
 obtain ⟨z, its, n, r, hl, e⟩ := I.lstM hH
 obtain ⟨z2, its2, n2, r2, hl2, e2⟩ := I.lstM hB
 refine PySem.P.add_list e e2 ?_ (by rw [List.size_toArray, List.size_toArray]; omega)
 have ea : its.toArray ++ its2.toArray = (its ++ its2).toArray := by simp
 rw [ea]
 exact ⟨.ref _, _, I.lnew (t' := s.toks) (r.append r2) (by rw [List.length_append]; omega), rfl, q _ I.fresh⟩
def rRep : R2 := fun x y H Q => ∃ l k xs, x = .ref l ∧ y = .int k ∧ H l = some (.lst xs) ∧ -(2 ^ 63) ≤ k ∧ k < 2 ^ 63 ∧ xs.length * k.toNat ≤ sizeLine ∧
 ∀ p, H p = none → Q (.ref p) (upd H p (.lst (List.replicate k.toNat xs).flatten))
theorem zamw {α : Type} (xs : List α) (k : Nat) : (List.replicate k xs).flatten.length = k * xs.length := by
 induction k with
 | zero => simp
 | succ k ih => rw [List.replicate_succ, List.flatten_cons, List.length_append, ih, Nat.succ_mul, Nat.add_comm]
theorem zaow : OpR X (binaryOp .Mult) rRep := by
 intro pins s σ H x y v u Q I rx ry h
 obtain ⟨l, k, xs, rfl, rfl, hH, h1, h2, hz, q⟩ := h
 cases rx
 obtain ⟨t, rfl⟩ := ry
 obtain ⟨z, its, n, r, hl, e⟩ := I.lstM hH
 have hlen : its.toArray.size * k.toNat ≤ sizeLine := by rw [List.size_toArray, ← hl]; exact hz
 have hcap : ¬ its.toArray.size * k.toNat > (2 ^ 63 - 1) / 8 := by
  have : (sizeLine : Nat) ≤ (2 ^ 63 - 1) / 8 := by decide
  omega
 have hfit : ¬ (!Builtin.List.listFitsIndex k) = true := by
  rw [fitsIndex_both h1 h2]
  exact Bool.false_ne_true
 have hlong : ¬ Builtin.List.listTooLong (its.toArray.size * k.toNat) = true := by
  rw [notLongL hlen]
  exact Bool.false_ne_true
 have hnew : List.foldl (fun x1 x2 => x1 ++ x2) #[] (List.replicate (if its.toArray.isEmpty = true then 0 else k.toNat) its.toArray) = (List.replicate k.toNat its).flatten.toArray := by
  have f0 : ∀ m : Nat, List.foldl (fun x1 x2 => x1 ++ x2) #[] (List.replicate m its.toArray) = (List.replicate m its).flatten.toArray := fun m => by
   have := zagk its m []
   rw [List.nil_append] at this
   exact this
  rw [f0]
  cases its with
  | nil => simp
  | cons a r' => rw [if_neg (by simp)]
 refine wpAny_binaryOp_repeat_ref (T := "list") (U := "int") (by decide) ⟨_, e, rfl⟩ (fun s' => typeIs_int s' k t) noFill_list_mul F.fills_int_mul F.slot_int_rmul repeat_list F.slot_int_index.lookup
  (call_meets F.slot_int_rmul (typeIs_int s k t) F.entry_int_rmul (F.args_int_rmul_2 _ _) (int___rmul___int_list k t l its.toArray n)
   ⟨e, rfl, ⟨_, e, rfl⟩, call_meets F.slot_list_mul ⟨_, e, rfl⟩ F.entry_list_mul (F.args_list_mul_2 _ _) (AutoListH.list___mul___list_int_3 l its.toArray n k t hfit hcap hlong) ⟨e, ?_⟩⟩)
 rw [hnew]
 exact ⟨.ref _, _, I.lnew (t' := s.toks) (r.rep k.toNat) (by rw [zamw, Nat.mul_comm]; exact hz), rfl, q _ I.fresh⟩
end
section
variable {prog : Program} {w : World} {A : Around} {E : Value → Shared → Prop} {s : Shared}
end
section
variable {X : Cx}
end
end L2
namespace Att
open PySem PySem.W PySem.Calls PyProof.Rows
theorem zaen {P : Params} {h : Heap} : ∀ (ns : List Int) (vs : List Value), WellAll P h vs (ns.map WData.int) → IntsAre vs ns := by
 intro ns
 induction ns with
 | nil =>
  intro vs w
  rw [List.map_nil] at w
  cases w
  exact .nil
 | cons n ns ih =>
  intro vs w
  rw [List.map_cons] at w
  cases w with
  | cons a b =>
   cases a
   exact .cons _ _ (ih _ b)
theorem zajf {l : OpenLaw} {n : Nat} (hn : l.most = some n) {P : Params} {h : Heap} {args : List WData} {vals : List Value}
  (hpre : l.row.toRowW.claim.pre args = true) (hwl : WellAll P h vals args) :
  ∃ a vs ns, vals = [Value.ref a] ∧ args = [WData.list (ns.map WData.int)] ∧ h.get? a = some { cls := .type "list", data := .seq vs.toArray } ∧ IntsAre vs ns ∧ ns.length ≤ n := by
 have hsh : WShape.hasAll [] args [.list .int] = true := (pre_splitW hpre).1
 have hc : l.pre.holds [] { args := args } = true := (pre_splitW hpre).2
 obtain ⟨d, r, rfl, h1, h2⟩ := hasAllW_cons hsh
 obtain rfl := hasAllW_nil h2
 obtain ⟨xs, rfl, h3⟩ := hasW_list h1
 obtain ⟨ns, rfl⟩ := items_int h3
 have hlen : ns.length ≤ n := by
  unfold OpenLaw.pre at hc
  have h4 : (WTm.not (.lt (.lit (.int (n : Int))) (.len (.arg 0)))).holds [] { args := [.list (ns.map .int)] } = true := by
   have h4 := (holds_andW hc).1
   rw [hn] at h4
   exact h4
  have h5 := condW_of h4 (w_not (w_lt w_lit (w_len_list (w_arg rfl))))
  rw [List.length_map] at h5
  refine Nat.le_of_not_lt fun q => ?_
  have q' : (n : Int) < ((ns.length : Nat) : Int) := by omega
  first
   | (rw [decide_eq_true q'] at h5; exact absurd h5 (by decide))
   | (simp at h5; omega)
 cases hwl with
 | cons w1 w2 =>
  cases w2
  cases w1 with
  | list ho hall => exact ⟨_, _, ns, rfl, rfl, ho, zaen ns _ hall, hlen⟩
theorem zajg (l : OpenLaw) (args : List WData) : l.row.toRowW.claim.post args (.bool true) args = true :=
 postW_of (r := l.row.toRowW) (X := (true == true))
  (show WShape.has [] (.bool true) .bool = true by first | rfl | decide | simp [WShape.has, WShape.arms, WShape.armsAll])
  (show (WTm.eq .res (.lit (.bool true))).value [] { args := args, res := some (.bool true), after := args } = some (.bool (true == true)) from w_eq_bool (w_res rfl) w_lit) rfl
theorem attach_call {l : OpenLaw} {n : Nat} {q : Program} {loose : List Str} {XP : (Str → Option Value) → Heap → Prop} {YP : World → Heap → Prop} {d : DefRec}
  (hn : l.most = some n) (hdf : d.params.defaults = [])
  (call : ∀ (w : World) (s₀ s₁ : Shared) (mg mb : Str → Option Value) (fa : Addr) (o : Obj) (pm cd doc : Value) (a : Addr) (vs : List Value) (ns : List Int),
   Ground q loose [] XP w s₀ mg mb s₁.heap → YP w s₁.heap →
   s₁.heap.get? fa = some o → o.data = .func (docDef d.name d.params d.body d.scope pm cd doc) → s₁.heap.CodeRec cd d.name → mg d.name = some (.ref fa) →
   s₁.heap.get? a = some { cls := .type "list", data := .seq vs.toArray } → IntsAre vs ns → ns.length ≤ n → s₁.gens = #[] →
   codeAny (model l.prog w) callerA (.call (.ref fa) ⟨[.ref a], []⟩) (fun r s' => r = .ok (.ret (.bool true)) ∧ OldK s₁.heap s'.heap ∧ s'.os = s₁.os ∧ AllBare s'.gens) s₁) :
  WalkO q loose XP YP l.row.toRowW d [] (fun f vs => PySem.call f vs) := by
 intro w s₀ s₁ mg mb G Y fa o pm cd doc dV kV ho hd hcd hD hmg hg args vals as hpre hlay hrd hwl hlo
 obtain rfl : dV = .none := Dflts.none hD hdf
 obtain rfl : kV = .none := Dflts.noKw hD
 obtain ⟨a, vs, ns, rfl, rfl, hobj, hints, hlen⟩ := zajf hn hpre hwl
 refine enter_call (codeAny_mono (call w s₀ s₁ mg mb fa o pm cd doc a vs ns G Y ho (fd_plain hd) hcd hmg hobj hints hlen hg) fun r s' hq => ?_)
 obtain ⟨rfl, h2, h3, h4⟩ := hq
 exact ⟨.inl ⟨.bool true, .bool true, [], rfl, fun _ => rfl, .bool true, zajg l _, fun _ => ⟨List.Pairwise.nil, fun _ hm => (nomatch hm)⟩⟩, h2, h3, h4⟩
section
variable {prog : Program} {w : World} {A : Around} {E : Value → Shared → Prop} {s : Shared} {K : Frag}
def noObjs (h : Heap) : Heap := { h with objs := #[] }
def ledger (h : Heap) (L d : Addr) : List (Addr × Obj) := (List.range h.objs.size).filterMap fun a => if a = L ∨ a = d then none else (h.get? a).map fun o => (a, o)
end
end Att
namespace L2
open PySem PySem.Spec PyProof.Rows
theorem zagl : ∀ {vs : List Value} {ns : List Int}, IntsAre vs ns → Vals (ns.map V.int) vs
 | _, _, .nil => .nil
 | _, _, .cons n t h => .cons ⟨t, rfl⟩ (zagl h)
def Only (H : Hp) : Prop := ∀ b, H b = none ∨ ∃ o xs, H b = some (.frz o (.lst xs))
theorem zakz {P : Program} {w : World} {K : PySem.W.Frag} {mg mb : Str → Option Value} {CX : CXT} {k : Nat} {fa a : Addr} {fd : FuncData} {x : Str} {sp : Sp} {s₁ : Shared} {vs : List Value} {ns : List Int}
  (KX : K.In s₁.heap) (hns : s₁.heap.Ns mainGlobals mg) (hb : s₁.heap.Ns builtinsNs mb) (hbb : ∀ x : Str, x ≠ "__name__" → mb x = bootBuiltins x) (hlim : s₁.heap.NoLimit) (hg : s₁.gens = #[])
  (ha : s₁.heap.get? a = some { cls := .type "list", data := .seq vs.toArray }) (hi : IntsAre vs ns) (hl : ns.length ≤ sizeLine) (hr : Room k callerA)
  (F : ∀ base : Heap, K.In base → base.Ns mainGlobals mg → FnOk P w K mg base CX k fa fd [x] sp) (hbind : ∀ (s : Shared) (u : Value), BindsTo s fd ⟨[u], []⟩ [(x, u)])
  (hsp : ∀ H : Hp, Only H → SqL K H a (ns.map V.int) → sp [.ref a] H (fun v _ => v = .bl true) fun _ _ _ => False)
  (hCX : ∀ H e s', CX [] H s₁ (fun _ _ _ => False) e s' → False) :
  codeAny (model P w) callerA (.call (.ref fa) ⟨[.ref a], []⟩) (fun r s' => r = .ok (.ret (.bool true)) ∧ OldK s₁.heap s'.heap ∧ s'.os = s₁.os ∧ AllBare s'.gens) s₁ := by
 have rv := zagl hi
 have lenV := hi.length
 have core : ∀ H : Hp, Only H → SqL K H a (ns.map V.int) → HOk P w H s₁.heap → (∀ b, H b ≠ none → b = a) → (H a ≠ none → K.lookup a = none) →
   codeAny (model P w) callerA (.call (.ref fa) ⟨[.ref a], []⟩) (fun r s' => r = .ok (.ret (.bool true)) ∧ OldK s₁.heap s'.heap ∧ s'.os = s₁.os ∧ AllBare s'.gens) s₁ := by
  intro H hO hS hok hA hK
  have base_of : ∀ {b : Addr} {o : Obj}, s₁.heap.get? b = some o → H b = none → (hidT s₁.heap H).get? b = some o := fun e n => zakp e n
  have noA : ∀ {b : Addr} {o : Obj} {es : Array DictEntry} {ep : Nat}, s₁.heap.get? b = some o → o.data = .dict es ep → H b = none := fun {b o es ep} e d => by
   cases q : H b with
   | none => rfl
   | some u =>
    have e' : b = a := hA b (by rw [q]; simp)
    subst e'
    rw [ha] at e; cases e
    have d' : Data.seq vs.toArray _ = Data.dict es ep := d
    cases d'
  have nsK : ∀ {b : Addr} {m : Str → Option Value}, s₁.heap.Ns b m → (hidT s₁.heap H).Ns b m := fun {b m} ⟨o, es, ep, e, d, r⟩ => ⟨o, es, ep, base_of e (noA e d), d, r⟩
  have hKb : K.In (hidT s₁.heap H) := fun b o e => base_of (KX b o e) (by
   cases q : H b with
   | none => rfl
   | some u =>
    have e' : b = a := hA b (by rw [q]; simp)
    subst e'
    rw [hK (by rw [q]; simp)] at e; cases e)
  have hM : Mod K mg (hidT s₁.heap H) := ⟨hKb, nsK hns, ⟨mb, nsK hb, hbb⟩, let ⟨mc, h1, h2⟩ := hlim; ⟨mc, nsK h1, h2⟩⟩
  have e0 : Env0 P w K mg (hidT s₁.heap H) callerA [] s₁ H := ⟨rfl, hM, fun b o e => zamc e, Nat.le_of_eq (zaiw _ _), trivial, fun b hb => absurd (show b ∈ ([] : List Addr) from hb) (by simp), hok, .of_eq hg⟩
  refine codeAny_mono ((F _ hKb (nsK hns)).run callerA [] s₁ H ⟨[.ref a], []⟩ [.ref a] [.ref a] _ _ hr e0 (hbind s₁ (.ref a)) (.cons rfl .nil) (hsp H hO hS)) fun r s' h => ?_
  cases r with
  | error e => exact (hCX H e s' h).elim
  | ok fl =>
   cases fl with
   | next => exact False.elim h
   | brk => exact False.elim h
   | cont => exact False.elim h
   | ret u =>
    obtain ⟨v, H', os, bare, un, hok', r', q⟩ := h
    have q' : v = .bl true := q
    subst q'
    obtain rfl : u = Value.bool true := r'
    refine ⟨rfl, OldK.of_keep fun b o e => ?_, os, bare⟩
    cases q : H b with
    | none => exact un.keep b o e q (by intro z; exact absurd (show b ∈ ([] : List Addr) from z) (by simp)) (by simp)
    | some u =>
     rcases hO b with z | ⟨ob, xs, z⟩
     ·rw [q] at z; cases z
     ·have z2 := un.frzs b ob _ z
      obtain ⟨e1, _⟩ := hok b _ z
      obtain ⟨e2, _⟩ := hok' b _ z2
      rw [e] at e1; cases e1
      exact e2
 cases hk : K.lookup a with
 | some o =>
  have e := KX a o hk
  rw [ha] at e
  cases e
  refine core (fun _ => none) (fun _ => .inl rfl) (.inr ⟨_, vs.toArray, _, hk, rfl, rfl, rfl, by rw [List.size_toArray, lenV]; exact hl, by simpa using rv⟩) (fun b u z => by have z' : (none : Option HO) = some u := z; cases z') (fun b z => absurd rfl z) fun z => absurd rfl z
 | none =>
  refine core (fun b => if b = a then some (.frz { cls := .type "list", data := .seq vs.toArray } (.lst (ns.map V.int))) else none) (fun b => ?_) (.inl (.inr ⟨{ cls := .type "list", data := .seq vs.toArray }, if_pos rfl⟩)) (fun b u z => ?_) (fun b z => ?_) fun _ => hk
  ·by_cases hb : b = a
   ·exact .inr ⟨_, _, if_pos hb⟩
   ·exact .inl (if_neg hb)
  ·by_cases hb : b = a
   ·have z' := (if_pos hb).symm.trans z
    cases z'
    subst hb
    exact ⟨ha, by rw [List.length_map]; exact hl, vs, _, rv, ha⟩
   ·have z' := (if_neg hb).symm.trans z
    cases z'
  ·by_cases hb : b = a
   ·exact hb
   ·exact absurd (if_neg hb) z
abbrev KOf {K : PySem.W.Frag} {h : Heap} (_ : K.In h) : PySem.W.Frag := K
theorem zamx {l : PySem.W.OpenLaw} {n k : Nat} {q : Program} {loose : List Str} {XP : (Str → Option Value) → Heap → Prop} {YP : World → Heap → Prop} {d : DefRec} {K : Params → PySem.W.Frag} {CX : World → CXT} {sp : World → Sp} {x : Str}
  (hn : l.most = some n) (hn2 : n ≤ sizeLine) (hdf : d.params.defaults = []) (hr : Room k callerA)
  (hY : ∀ (w : World) (h : Heap), YP w h → (K w.params).In h)
  (F : ∀ (w : World) (mg : Str → Option Value) (fa : Addr) (h : Heap), (K w.params).In h → h.Ns mainGlobals mg → mg d.name = some (.ref fa) →
   ∃ fd : FuncData, (∀ (s : Shared) (u : Value), BindsTo s fd ⟨[u], []⟩ [(x, u)]) ∧
    ∀ base : Heap, (K w.params).In base → base.Ns mainGlobals mg → FnOk l.prog w (K w.params) mg base (CX w) k fa fd [x] (sp w))
  (hsp : ∀ (w : World) (H : Hp) (a : Addr) (ns : List Int), ns.length ≤ n → Only H → SqL (K w.params) H a (ns.map V.int) → sp w [.ref a] H (fun v _ => v = .bl true) fun _ _ _ => False)
  (hCX : ∀ (w : World) (H : Hp) (s : Shared) (e : Value) (s' : Shared), CX w [] H s (fun _ _ _ => False) e s' → False) :
  PySem.W.WalkO q loose XP YP l.row.toRowW d [] (fun f vs => PySem.call f vs) := by
 refine Att.attach_call hn hdf fun w s₀ s₁ mg mb fa o pm cd doc a vs ns G Y ho hd hcd hmg hobj hints hlen hg => ?_
 have KX := hY w _ Y
 obtain ⟨fd, hb, hF⟩ := F w mg fa _ KX G.T.g hmg
 exact zakz KX G.T.g G.T.b G.T.builtins G.T.nolimit hg hobj hints (Nat.le_trans hlen hn2) hr hF hb (fun H hO hS => hsp w H a ns hlen hO hS) fun H e s' => hCX w H s₁ e s'
theorem zak0 {l : PySem.W.OpenLaw} {n k : Nat} {q : Program} {loose : List Str} {XP : (Str → Option Value) → Heap → Prop} {YP : World → Heap → Prop} {d : DefRec} {K : Params → PySem.W.Frag} {CX : CXT} {sp : PySem.W.Frag → Sp} {x : Str}
  (hn : l.most = some n) (hn2 : n ≤ sizeLine) (hdf : d.params.defaults = []) (hr : Room k callerA)
  (hY : ∀ (w : World) (h : Heap), YP w h → (K w.params).In h)
  (F : ∀ (w : World) (mg : Str → Option Value) (fa : Addr) (h : Heap), (K w.params).In h → h.Ns mainGlobals mg → mg d.name = some (.ref fa) →
   ∃ fd : FuncData, (∀ (s : Shared) (u : Value), BindsTo s fd ⟨[u], []⟩ [(x, u)]) ∧
    ∀ base : Heap, (K w.params).In base → base.Ns mainGlobals mg → FnOk l.prog w (K w.params) mg base CX k fa fd [x] (sp (K w.params)))
  (hsp : ∀ (K : PySem.W.Frag) (H : Hp) (a : Addr) (ns : List Int), ns.length ≤ n → Only H → SqL K H a (ns.map V.int) → sp K [.ref a] H (fun v _ => v = .bl true) fun _ _ _ => False)
  (hCX : ∀ (H : Hp) (s : Shared) (e : Value) (s' : Shared), CX [] H s (fun _ _ _ => False) e s' → False) :
  PySem.W.WalkO q loose XP YP l.row.toRowW d [] (fun f vs => PySem.call f vs) :=
 zamx (K := K) (CX := fun _ => CX) (sp := fun w => sp (K w.params)) hn hn2 hdf hr hY F (fun w H a ns h1 h2 h3 => hsp (K w.params) H a ns h1 h2 h3) fun _ H s e s' => hCX H s e s'
def inClass (s : Stmt) (j : Nat) : Stmt := match s with
 | .ClassDef _ _ _ body _ _ _ _ _ _ _ => body.getD j (.Pass ⟨0, 0, 0, 0⟩)
 | _ => .Pass ⟨0, 0, 0, 0⟩
def defArgs (s : Stmt) : Arguments := match s with
 | .FunctionDef _ a _ _ _ _ _ _ _ _ => a
 | _ => { posonlyargs := [], args := [], vararg := none, kwonlyargs := [], kw_defaults := [], kwarg := none, defaults := [] }
def defBody (s : Stmt) : List Stmt := match s with
 | .FunctionDef _ _ b _ _ _ _ _ _ _ => b
 | _ => []
def defScope (s : Stmt) : Scope := match s with
 | .FunctionDef _ _ _ _ _ _ sc _ _ _ => sc
 | _ => { kind := .function, names := [], isGenerator := false, isCoroutine := false }
abbrev CX0 : CXT := fun _ _ _ _ _ _ => False
abbrev E0 : XK := fun _ _ _ => False
theorem pass0 {X : Cx} : Passes CX0 X E0 := fun _ _ _ _ _ _ _ h => h.elim
structure Fun (K : PySem.W.Frag) (x qual : Str) (st : Stmt) (f : Addr) (fd : FuncData) : Prop where
 ex : ∃ (oc : Value) (od : Option Addr) (kV doc pm : Value) (an : Option Addr) (cdv ct : Value) (osl : Array (Option Value)),
  fd = PySem.W.fnOf x qual (defArgs st) (defBody st) (defScope st) .none kV doc pm an cdv ct ∧ K.lookup f = some ⟨oc, od, .func fd, osl⟩ ∧ PySem.W.codeIn K cdv qual = true
 kp : PySem.W.keepIn K (.ref f) = true
section
variable {P : Program} {w : World} {K : PySem.W.Frag} {mg : Str → Option Value} {base : Heap}
theorem Fun.ok {x qual : Str} {st : Stmt} {f : Addr} {fd : FuncData} {N ps : List Str} {k : Nat} {sp : Sp} (F : Fun K x qual st f fd) (S : FnScope N ps (defScope st)) (len : ∀ vs H Q E, sp vs H Q E → vs.length = ps.length)
  (hbody : ∀ (cdv : Value) (A : Around) (outer : List Env) (s : Shared) (H : Hp) (vs : List V) (Q : VK) (E : XK), Room k (A.deeper (envOfC qual (defScope st) s.heap.objs.size f cdv)) → sp vs H Q E →
   ∃ t, PSs (cxOf CX0 P w K mg base N qual (defScope st) f cdv A outer s H E).nox (defBody st) t ∧ t { nx := fun _ H' => Q .non H', rt := Q } (start N vs) H) : FnOk P w K mg base CX0 (k + 1) f fd ps sp := by
 obtain ⟨oc, od, kV, doc, pm, an, cdv, ct, osl, rfl, lk, hcd⟩ := F.ex
 refine zaor lk hcd S len fun A outer s H vs Q E hr hsp => ?_
 obtain ⟨t, h, q⟩ := hbody cdv A outer s H vs Q E hr hsp
 exact ⟨t, h.nox, q⟩
theorem Fun.binds {x qual : Str} {st : Stmt} {f : Addr} {fd : FuncData} {ps : List Str} (F : Fun K x qual st f fd)
  (h : ∀ (kV doc pm : Value) (an : Option Addr) (cdv ct : Value) (us : List Value), us.length = ps.length → bindArgs (PySem.W.fnOf x qual (defArgs st) (defBody st) (defScope st) .none kV doc pm an cdv ct) ⟨us, []⟩ = pure (ps.zip us)) : Binds K fd ps [] := by
 obtain ⟨oc, od, kV, doc, pm, an, cdv, ct, osl, rfl, lk, hcd⟩ := F.ex
 exact .all (h kV doc pm an cdv ct)
theorem zaci {x qual : Str} {st : Stmt} {f : Addr} {oc : Value} {od an : Option Addr} {osl : Array (Option Value)} {kV doc pm cdv ct : Value} (l : K.lookup f = some ⟨oc, od, .func (PySem.W.fnOf x qual (defArgs st) (defBody st) (defScope st) .none kV doc pm an cdv ct), osl⟩)
  (c : PySem.W.codeIn K cdv qual = true) (k : PySem.W.keepIn K (.ref f) = true) : Fun K x qual st f (PySem.W.fnOf x qual (defArgs st) (defBody st) (defScope st) .none kV doc pm an cdv ct) := ⟨⟨oc, od, kV, doc, pm, an, cdv, ct, osl, rfl, l, c⟩, k⟩
end
theorem zapy {A : Around} {k : Nat} (hr : Room k A) : A.units + 1 < cLine := Nat.lt_of_le_of_lt (Nat.add_le_add_left (by decide : 1 ≤ 64) _) hr.units
section
variable {X : Cx}
end
theorem iteF {A B : Prop} (h : B) : if false = true then A else B := by
 rw [if_neg Bool.false_ne_true]
 exact h
theorem iteT {A B : Prop} (h : A) : if true = true then A else B := by
 rw [if_pos rfl]
 exact h
theorem ite2 {c A B : Prop} [Decidable c] (h1 : c → A) (h2 : ¬ c → B) : if c then A else B := by
 by_cases h : c
 ·rw [if_pos h]
  exact h1 h
 ·rw [if_neg h]
  exact h2 h
def Same (H H' : Hp) : Prop := ∀ b o, H b = some o → H' b = some o
end L2

namespace L2
open PySem PySem.Spec PyProof.Rows
section
variable {κ : Type} [DecidableEq κ]
def valV (kvs : List (κ × V)) (k : κ) : Option V := (kvs.find? fun kv => decide (kv.1 = k)).map (·.2)
def putK (kvs : List (κ × V)) (k : κ) (v : V) : List (κ × V) :=
 if (kvs.any fun kv => decide (kv.1 = k)) = true then kvs.map (fun kv => if kv.1 = k then (kv.1, v) else kv) else kvs ++ [(k, v)]
def dropK (kvs : List (κ × V)) (k : κ) : List (κ × V) := kvs.filter fun kv => decide (kv.1 ≠ k)
theorem zafg {p : κ × V} {r : List (κ × V)} {k : κ} (e : p.1 = k) : valV (p :: r) k = some p.2 := by simp [valV, List.find?_cons, e]
theorem zafh {p : κ × V} {r : List (κ × V)} {k : κ} (e : ¬ p.1 = k) : valV (p :: r) k = valV r k := by simp [valV, List.find?_cons, e]
theorem zagy (kvs : List (κ × V)) (k : κ) (v : V) : (putK kvs k v).length ≤ kvs.length + 1 := by
 unfold putK
 split
 ·rw [List.length_map]; omega
 ·rw [List.length_append, List.length_cons, List.length_nil]; omega
theorem RelO.isSome_eq {o : Option V} {u : Option Value} (r : RelO o u) : o.isSome = u.isSome := by
 cases o with
 | none => cases u with
  | none => rfl
  | some _ => exact (show False from r).elim
 | some _ => cases u with
  | none => exact (show False from r).elim
  | some _ => rfl
theorem RelO.getD {o : Option V} {u : Option Value} {d : V} {d' : Value} (r : RelO o u) (rd : RelV d d') : RelV (o.getD d) (u.getD d') := by
 cases o with
 | none => cases u with
  | none => exact rd
  | some _ => exact (show False from r).elim
 | some _ => cases u with
  | none => exact (show False from r).elim
  | some _ => exact r
theorem KV.val {kvs : List (κ × V)} {vs : List (κ × Value)} (r : KV kvs vs) (k : κ) : RelO (valV kvs k) (valueAt vs k) := by
 unfold KV at r
 induction r with
 | nil => exact True.intro
 | @cons p q ps qs h t ih =>
  obtain ⟨h1, h2⟩ := h
  by_cases e : p.1 = k
  ·have e' : q.1 = k := h1.symm.trans e
   have b : valueAt (q :: qs) k = some q.2 := by simp [valueAt, List.find?_cons, e']
   rw [zafg e, b]; exact h2
  ·have e' : ¬ q.1 = k := fun z => e (h1.trans z)
   have b : valueAt (q :: qs) k = valueAt qs k := by simp [valueAt, List.find?_cons, e']
   rw [zafh e, b]; exact ih
theorem KV.any {kvs : List (κ × V)} {vs : List (κ × Value)} (r : KV kvs vs) (k : κ) : (kvs.any fun kv => decide (kv.1 = k)) = vs.any fun kv => decide (kv.1 = k) := by
 unfold KV at r
 induction r with
 | nil => rfl
 | cons h t ih => rw [List.any_cons, List.any_cons, ih, h.1]
theorem KV.repl {kvs : List (κ × V)} {vs : List (κ × Value)} (r : KV kvs vs) (k : κ) {y : V} {u : Value} (ry : RelV y u) :
  KV (kvs.map fun kv => if kv.1 = k then (kv.1, y) else kv) (vs.map fun kv => if kv.1 = k then (kv.1, u) else kv) := by
 unfold KV at r ⊢
 induction r with
 | nil => exact .nil
 | @cons p q ps qs h t ih =>
  rw [List.map_cons, List.map_cons]
  refine .cons ?_ ih
  obtain ⟨h1, h2⟩ := h
  by_cases e : p.1 = k
  ·rw [if_pos e, if_pos (h1.symm.trans e)]; exact ⟨h1, ry⟩
  ·rw [if_neg e, if_neg (fun z => e (h1.trans z))]; exact ⟨h1, h2⟩
theorem KV.put {kvs : List (κ × V)} {vs : List (κ × Value)} (r : KV kvs vs) (k : κ) {y : V} {u : Value} (ry : RelV y u) : KV (putK kvs k y) (stored vs k u) := by
 unfold putK stored
 rw [r.any k]
 by_cases e : (vs.any fun kv => decide (kv.1 = k)) = true
 ·rw [if_pos e, if_pos e]; exact r.repl k ry
 ·rw [if_neg e, if_neg e]; exact Paired.snoc r ⟨rfl, ry⟩
end
theorem zajh {P : Program} {w : World} {k : Key} {u : Value} (r : RelV (kV k) u) : (mixKind P w).is k u = true := by
 cases k with
 | inl i => obtain ⟨t, e⟩ := (show ∃ t, u = Value.int i t from r); subst e; exact zagv P w i t
 | inr x => obtain ⟨t, e⟩ := (show ∃ t, u = Value.str x t from r); subst e; exact zagw P w x t
theorem zagm {P : Program} {w : World} : ∀ {ks : List Key} {us : List Value}, Vals (ks.map kV) us → ItemsAre (mixKind P w) ks us
 | [], _, r => by rw [List.map_nil] at r; cases r; exact .nil
 | k :: ks, _, r => by
  rw [List.map_cons] at r
  cases r with
  | cons h t => exact .cons (zajh h) (zagm t)
abbrev KT (H : Hp) : List (List Key × V) → List (List Key × Addr × Value) → Prop := Paired fun p q => p.1 = q.1 ∧ H q.2.1 = some (.tup (p.1.map kV)) ∧ RelV p.2 q.2.2
theorem KT.val {H : Hp} {kvs : List (List Key × V)} {xs : List (List Key × Addr × Value)} (r : KT H kvs xs) (k : List Key) : RelO (valV kvs k) ((atKey xs k).map (·.2)) := by
 induction r with
 | nil => exact True.intro
 | @cons p q ps qs h t ih =>
  obtain ⟨h1, _, h2⟩ := h
  by_cases e : p.1 = k
  ·have e' : q.1 = k := h1.symm.trans e
   have b : atKey (q :: qs) k = some q.2 := by simp [atKey, List.find?_cons, e']
   rw [zafg e, b]; exact h2
  ·have e' : ¬ q.1 = k := fun z => e (h1.trans z)
   have b : atKey (q :: qs) k = atKey qs k := by simp [atKey, List.find?_cons, e']
   rw [zafh e, b]; exact ih
section
variable {P : Program} {w : World} {H : Hp} {h : Heap} {a : Addr}
theorem zaox {u : HO} (ok : HOk P w H h) (e : Rd H a u) : ObjOk P w H h a u := e.ok ok
theorem zak1 {kvs : List (Key × V)} (ok : HOk P w H h) (e : Rd H a (.dK kvs)) : kvs.length ≤ sizeLine ∧ (a == sysModules) = false ∧ ∃ vs, KV kvs vs ∧ h.DictOf (mixKind P w) a vs :=
 show ObjOk P w H h a (.dK kvs) from zaox ok e
theorem zapz {kvs : List (Key × V)} (ok : HOk P w H h) (e : H a = some (.dK kvs)) : kvs.length ≤ sizeLine ∧ (a == sysModules) = false ∧ ∃ vs, KV kvs vs ∧ h.DictOf (mixKind P w) a vs := zak1 ok (.inl e)
theorem zal4 {ks : List Key} (ok : HOk P w H h) (e : H a = some (.tup (ks.map kV))) : (tupleKind (mixKind P w)).is h ks a := by
 obtain ⟨_, its, r, o, h1, h2, n, h3⟩ := (show ObjOk P w H h a (.tup (ks.map kV)) from ok a _ e)
 exact ⟨o, its.toArray, n, h1, h2, h3, by simpa using zagm r⟩
theorem zaoy {kvs : List (List Key × V)} (ok : HOk P w H h) (e : Rd H a (.dT kvs)) : kvs.length ≤ sizeLine ∧ (a == sysModules) = false ∧
  ∃ xs, KT H kvs xs ∧ h.DictOfH (tupleKind (mixKind P w)) a xs := by
 obtain ⟨z, y, xs, r, o, es, ep, h1, h2, h3, h4, h5⟩ := (show ObjOk P w H h a (.dT kvs) from zaox ok e)
 refine ⟨z, y, xs, r, o, es, ep, h1, h2, h3, h4, fun x hx => ?_, h5⟩
 have all : ∀ {l : List (List Key × V)} {m : List (List Key × Addr × Value)}, KT H l m → ∀ x ∈ m, (tupleKind (mixKind P w)).is h x.1 x.2.1 := by
  intro l m q
  induction q with
  | nil => intro x hx; exact nomatch hx
  | @cons p q ps qs hq t ih =>
   intro x hx
   rcases List.mem_cons.mp hx with e | hx
   ·subst e
    exact zal4 ok (by rw [← hq.1]; exact hq.2.1)
   ·exact ih x hx
 exact all r x hx
end
def DGet (H : Hp) (a : Addr) (y : V) (r : Option V) : Prop :=
 (∃ kvs k, Rd H a (.dK kvs) ∧ y = kV k ∧ r = valV kvs k) ∨ ∃ kvs k b, Rd H a (.dT kvs) ∧ y = .ref b ∧ H b = some (.tup (k.map kV)) ∧ r = valV kvs k
def DPut (H : Hp) (a : Addr) (y v : V) (H' : Hp) : Prop :=
 (∃ kvs k, H a = some (.dK kvs) ∧ y = kV k ∧ kvs.length < sizeLine ∧ H' = upd H a (.dK (putK kvs k v))) ∨
 ∃ kvs k b, H a = some (.dT kvs) ∧ y = .ref b ∧ H b = some (.tup (k.map kV)) ∧ kvs.length < sizeLine ∧ H' = upd H a (.dT (putK kvs k v))
theorem DGet.k {H : Hp} {a : Addr} {kvs : List (Key × V)} {k : Key} (e : H a = some (.dK kvs)) : DGet H a (kV k) (valV kvs k) := .inl ⟨kvs, k, .inl e, rfl, rfl⟩
section
variable {X : Cx} {pins : List (Addr × Obj)} {σ : St} {H : Hp} {s : Shared} {a : Addr} {y v : V} {u r : Value} {o : Option V} {A : Around} {E : Value → Shared → Prop}
theorem Inv.big (I : Inv X pins σ H s) : sysModules < s.heap.objs.size := by
 have h : mainGlobals < s.heap.objs.size := (I.mod.glob.keeps I.bk).lt
 exact Nat.lt_trans (by decide) h
theorem zamy {h' : Heap} {t' : Nat} {ob : HO} (I : Inv X pins σ H s) (mu : Mut (H a)) (hs : Heap.SameBut a s.heap h') (he : ∃ q, h'.get? a = some q) (new : ObjOk X.prog X.w (upd H a ob) h' a ob) :
  Inv X pins σ (upd H a ob) { s with heap := h', toks := t' } :=
 I.write (x := a) (e := a) mu (.inl rfl) (fun b q hb z => (hs.2 b hb).trans z) he new
theorem zaoz {P : Program} {w : World} {H' : Hp} {h' : Heap} {kvs : List (Key × V)} {vs : List (Key × Value)} (z : kvs.length ≤ sizeLine) (hd : (a == sysModules) = false) (rel : KV kvs vs) (dd : h'.DictOf (mixKind P w) a vs) :
  ObjOk P w H' h' a (.dK kvs) := ⟨z, hd, vs, rel, dd⟩
end
section
variable {X : Cx} {pins : List (Addr × Obj)} {σ : St} {H : Hp} {s : Shared} {a : Addr} {kvs : List (Key × V)} {k : Key} {u : Value} {A : Around} {E : Value → Shared → Prop}
end
def NoSl (i : Expr) : Prop := ∀ ov iv, subscripted i false ov iv = operate [ov, iv] (getItem ov iv)
theorem zamz {prog : Program} {w : World} {A : Around} {E : Value → Shared → Prop} {s : Shared} {env : Env} {value slice : Expr} {pos : Pos} {T id : String} {Q : Value → Shared → Prop}
  (hl : typeLookup (.type T) "__getitem__" = pure (some (.builtin id))) (hs : NoSl slice)
  (h : wpAny (model prog w) A (eval value env) (fun o s₁ => wpAny (model prog w) A (eval slice env) (fun i s₂ => s₂.TypeIs o T ∧ wpAny (model prog w) A (getItem o i) Q E s₂) E s₁) E s) :
  wpAny (model prog w) A (eval (.Subscript value slice pos) env) Q E s := by
 refine Subscript_ (wpAny_mono h (fun o s₁ h₁ => wpAny_mono h₁ (fun i s₂ h₂ => ?_) fun _ _ x => x) fun _ _ x => x)
 obtain ⟨hT, h₂⟩ := h₂
 unfold subscriptTail
 refine wpAny_bind ?_
 rw [getitemInPython_of_ne hT.not_modules]
 refine wpAny_bind (wpAny_specialOf hT hl ?_)
 have fin : wpAny (model prog w) A (subscripted slice false o i) (fun r s₃ => wpAny (model prog w) A (letTemporaryGo value o r >>= fun _ => pure r) Q E s₃) E s₂ := by
  rw [hs o i]
  exact wpAny_operating (wpAny_mono h₂ (fun r s₃ h₃ => wpAny_bind (wpAny_letTemporaryGo (wpAny_pure h₃))) fun _ _ x => x)
 first
  | exact wpAny_pure (wpAny_bind fin)
  | exact wpAny_bind (wpAny_pure (wpAny_bind fin))
  | exact wpAny_bind fin
def tDGet (td ty : TE) : TE := fun σ H Q => td σ H fun x H1 => ty σ H1 fun y H2 => ∃ a v, x = .ref a ∧ DGet H2 a y (some v) ∧ Q v H2
def tDIn (ty td : TE) : TE := fun σ H Q => ty σ H fun y H1 => td σ H1 fun x H2 => ∃ a o, x = .ref a ∧ DGet H2 a y o ∧ Q (.bl o.isSome) H2
def tDNotIn (ty td : TE) : TE := fun σ H Q => ty σ H fun y H1 => td σ H1 fun x H2 => ∃ a o, x = .ref a ∧ DGet H2 a y o ∧ Q (.bl (!o.isSome)) H2
def sDPut (td ty tv : TE) : TS := fun D σ H => tv σ H fun v H1 => td σ H1 fun x H2 => ty σ H2 fun y H3 => ∃ a H4, x = .ref a ∧ DPut H3 a y v H4 ∧ D.nx σ H4
def sDAug (td ty tv : TE) (rd : V → V → Hp → VK → Prop) : TS := fun D σ H => td σ H fun x H1 => ty σ H1 fun y H2 => ∃ a v, x = .ref a ∧ DGet H2 a y (some v) ∧
 tv σ H2 fun y2 H3 => rd v y2 H3 fun z H4 => ∃ H5, DPut H4 a y z H5 ∧ D.nx σ H5
def sDDel (td ty : TE) : TS := fun D σ H => td σ H fun x H1 => ty σ H1 fun y H2 => ∃ a kvs k, x = .ref a ∧ H2 a = some (.dK kvs) ∧ y = kV k ∧ (valV kvs k).isSome = true ∧ D.nx σ (upd H2 a (.dK (dropK kvs k)))
section
variable {X : Cx} {o i e value : Expr} {pos pos' tpos : Pos} {td ty tv : TE}
end
theorem zak2 {P : Program} {w : World} {H : Hp} (h : Heap) (hb : sysModules < h.objs.size) : ObjOk P w H (h.push { cls := .type "dict", data := .dict #[] }) h.objs.size (.dK []) :=
 ⟨Nat.zero_le _, beq_eq_false_iff_ne.mpr (Ne.symm (Nat.ne_of_lt hb)), [], .nil, Heap.DictOf.new h⟩
def tDNewK : TE := fun _ H Q => ∀ p, H p = none → Q (.ref p) (upd H p (.dK []))
def tDNewT : TE := fun _ H Q => ∀ p, H p = none → Q (.ref p) (upd H p (.dT []))
section
variable {X : Cx} {pos : Pos}
end
def tPairs : List (TE × TE) → St → Hp → (List (V × V) → Hp → Prop) → Prop
 | [], _, H, Q => Q [] H
 | (tk, tv) :: r, σ, H, Q => tk σ H fun x H1 => tv σ H1 fun y H2 => tPairs r σ H2 fun ps H3 => Q ((x, y) :: ps) H3
abbrev VV : List (V × V) → List (Value × Value) → Prop := Paired fun p q => RelV p.1 q.1 ∧ RelV p.2 q.2
def PPs (X : Cx) (pos : Pos) (keys : List (Option Expr)) (values : List Expr) (trs : List (TE × TE)) : Prop :=
 ∀ (pins : List (Addr × Obj)) (s : Shared) (σ : St) (H : Hp) (Q : List (V × V) → Hp → Prop), Inv X pins σ H s → tPairs trs σ H Q →
  wpAny (model X.prog X.w) X.A (evalPairs (pairTrees keys values X.env pos)) (fun vs s' => ∃ ps H', Inv X pins σ H' s' ∧ VV ps vs ∧ Q ps H') X.xe s
theorem zam0 {X : Cx} {pos : Pos} : PPs X pos [] [] [] := fun pins s σ H Q I h => pairTrees_nil_walk ⟨[], H, I, .nil, h⟩
theorem zak3 {X : Cx} {pos : Pos} {k v : Expr} {ks : List (Option Expr)} {vs : List Expr} {tk tv : TE} {trs : List (TE × TE)} (hk : PE X k tk) (hv : PE X v tv) (hr : PPs X pos ks vs trs) :
  PPs X pos (some k :: ks) (v :: vs) ((tk, tv) :: trs) := fun pins s σ H Q I h =>
 pairTrees_cons_walk (thn (hk pins s σ H _ I h) fun u s1 ⟨x, H1, I1, rx, q1⟩ => thn (hv pins s1 σ H1 _ I1 q1) fun w2 s2 ⟨y, H2, I2, ry, q2⟩ =>
  thn (hr pins s2 σ H2 _ I2 q2) fun ws s3 ⟨ps, H3, I3, rel, q3⟩ => ⟨(x, y) :: ps, H3, I3, .cons ⟨rx, ry⟩ rel, q3⟩)
def mergeK (kvs more : List (Key × V)) : List (Key × V) := more.foldl (fun acc kv => putK acc kv.1 kv.2) kvs
theorem KV.merge : ∀ {more : List (Key × V)} {rs : List (Key × Value)} {kvs : List (Key × V)} {vs : List (Key × Value)}, KV more rs → KV kvs vs → KV (mergeK kvs more) (merged vs rs) := by
 intro more rs kvs vs r
 unfold KV at r
 induction r generalizing kvs vs with
 | nil => intro q; exact q
 | @cons p q ps qs h t ih =>
  intro r0
  have e : KV (putK kvs p.1 p.2) (stored vs q.1 q.2) := by
   have := r0.put p.1 h.2
   rw [← h.1]; exact this
  exact ih e
theorem zadk : ∀ (more kvs : List (Key × V)), (mergeK kvs more).length ≤ kvs.length + more.length
 | [], kvs => by show kvs.length ≤ kvs.length + 0; omega
 | p :: r, kvs => by
  have h1 := zadk r (putK kvs p.1 p.2)
  have h2 := zagy kvs p.1 p.2
  show (mergeK (putK kvs p.1 p.2) r).length ≤ _
  rw [List.length_cons]; omega
theorem zae7 {P : Program} {w : World} : ∀ {kvs : List (Key × V)} {ws : List (Value × Value)}, VV (kvs.map fun kv => (kV kv.1, kv.2)) ws → ∃ rs, Carries (mixKind P w) ws rs ∧ KV kvs rs
 | [], _, r => by rw [List.map_nil] at r; cases r; exact ⟨[], True.intro, .nil⟩
 | p :: kvs, _, r => by
  rw [List.map_cons] at r
  cases r with
  | @cons a b as bs h t =>
   obtain ⟨rs, c, q⟩ := zae7 (P := P) (w := w) t
   obtain ⟨b1, b2⟩ := b
   exact ⟨(p.1, b2) :: rs, ⟨zajh h.1, rfl, c⟩, .cons ⟨rfl, h.2⟩ q⟩
def tDisp (trs : List (TE × TE)) : TE := fun σ H Q => ∀ p, H p = none → tPairs trs σ (upd H p (.dK [])) fun ps H2 => H2 p = some (.dK []) ∧ ∃ kvs : List (Key × V), ps = kvs.map (fun kv => (kV kv.1, kv.2)) ∧ kvs.length ≤ 15 ∧ Q (.ref p) (upd H2 p (.dK (mergeK [] kvs)))
theorem zam1 {X : Cx} {pos : Pos} {keys : List (Option Expr)} {values : List Expr} {trs : List (TE × TE)} (h : PPs X pos keys values trs) (hall : keys.all (·.isSome) = true) (hl : keys.length = values.length) (h0 : keys ≠ [])
  (h15 : keys.length ≤ 15) : PE X (.Dict keys values pos) (tDisp trs) := by
 intro pins s σ H Q I q
 have hn := I.hok.fresh (Nat.le_refl s.heap.objs.size)
 have I1 := I.laid (a := s.heap.objs.size) (o := .dK []) (h' := s.heap.push { cls := .type "dict", data := .dict #[] }) (t' := s.toks) (fun _ _ q => Heap.get?_push_of_some _ q) (Nat.le_refl _) (zak2 s.heap I.big)
 refine wpAny_Dict_walk (knd := mixKind X.prog X.w) hall hl h0 h15 (thn (h pins _ σ _ _ I1 (q _ hn)) fun ws s2 ⟨ps, H2, I2, rel, e, kvs, ep, lk, q2⟩ => ?_)
 subst ep
 obtain ⟨rs, c, rk⟩ := zae7 (P := X.prog) (w := X.w) rel
 obtain ⟨z, hd, vs0, r0, dd⟩ := zapz I2.hok e
 cases r0
 refine ⟨rs, c, dd, fun h' dd' hs => ⟨.ref s.heap.objs.size, _, ?_, rfl, q2⟩⟩
 have hz : (mergeK [] kvs).length ≤ sizeLine := by
  have h1 := zadk kvs []
  rw [List.length_nil] at h1
  rw [sizeLine_eq]; omega
 have he : ∃ q, h'.get? s.heap.objs.size = some q := let ⟨q, _, _, hq, _⟩ := dd'; ⟨q, hq⟩
 exact zamy I2 (by rw [e]; exact True.intro) hs he (zaoz hz hd (rk.merge .nil) dd')
structure M1 (X : Cx) (o : Expr) (m : Str) (apos : Pos) (e : Expr) (cpos : Pos) : Prop where
 base : attributeBase o m X.env (eval o X.env) = eval o X.env
 few : ((backTo cpos (starEach [e] X.env)).all (fun x => !x.1) && (backToKw cpos (keywordEach [] X.env)).all (fun x => x.1.isSome)
  && decide (([e] : List Expr).length + ([] : List Keyword).length + (if ([] : List Keyword).isEmpty then 0 else 1) < 30)) = true
 line : (apos.endLine == cpos.line) = true
 trees : backTo cpos (starEach [e] X.env) = [(false, eval e X.env)]
structure M2 (X : Cx) (o : Expr) (m : Str) (apos : Pos) (e f : Expr) (cpos : Pos) : Prop where
 base : attributeBase o m X.env (eval o X.env) = eval o X.env
 few : ((backTo cpos (starEach [e, f] X.env)).all (fun x => !x.1) && (backToKw cpos (keywordEach [] X.env)).all (fun x => x.1.isSome)
  && decide (([e, f] : List Expr).length + ([] : List Keyword).length + (if ([] : List Keyword).isEmpty then 0 else 1) < 30)) = true
 line : (apos.endLine == cpos.line) = true
 trees : backTo cpos (starEach [e, f] X.env) = [(false, eval e X.env), (false, eval f X.env)]
def IsD (H : Hp) (a : Addr) : Prop := (∃ kvs, Rd H a (.dK kvs)) ∨ ∃ kvs, Rd H a (.dT kvs)
theorem zao0 {X : Cx} {pins : List (Addr × Obj)} {σ : St} {H : Hp} {s : Shared} {a : Addr} (I : Inv X pins σ H s) (d : IsD H a) :
  s.TypeIs (.ref a) "dict" ∧ (∀ b, Value.ref a = .ref b → ∃ ob, s.heap.get? b = some ob ∧ ob.dict = none) ∧ (a == sysModules) = false := by
 rcases d with ⟨kvs, e⟩ | ⟨kvs, e⟩
 ·obtain ⟨_, hd, vs, _, dd⟩ := zak1 I.hok e
  refine ⟨dd.typeIs, fun b q => ?_, hd⟩
  cases q
  obtain ⟨ob, _, _, h1, h2, _⟩ := dd
  exact ⟨ob, h1, h2.2.1⟩
 ·obtain ⟨_, hd, xs, _, dd⟩ := zaoy I.hok e
  refine ⟨dd.typeIs, fun b q => ?_, hd⟩
  cases q
  obtain ⟨ob, _, _, h1, h2, _⟩ := dd
  exact ⟨ob, h1, h2.2.1⟩
section
variable {X : Cx} {pins : List (Addr × Obj)} {σ : St} {H : Hp} {s : Shared} {a : Addr} {y d : V} {u r : Value} {o : Option V} {A : Around} {E : Value → Shared → Prop}
theorem zao1 {Q : Value → Shared → Prop} (hu : A.units + 1 < cLine) (I : Inv X pins σ H s) (g : DGet H a y o) (ry : RelV y u) (rd : RelV d r) (h : ∀ w' s', Inv X pins σ H s' → RelV (o.getD d) w' → Q w' s') :
  wpAny (model X.prog X.w) A (call (.builtin "dict.get") [.ref a, u, r]) Q E s := by
 rcases g with ⟨kvs, k, e, ey, l⟩ | ⟨kvs, k, b, e, ey, eb, l⟩
 ·subst ey
  obtain ⟨z, hd, vs, rel, dd⟩ := zak1 I.hok e
  refine call_meetsIn PySem.F.slot_dict_get dd.typeIs PySem.F.entry_dict_get (PySem.F.args_dict_get_3 _ _ _) (meets_dict_get_default (mixKind X.prog X.w) a (zajh ry) hd r) ⟨_, dd.mapOf, h _ _ (I.tok _) ?_⟩
  rw [l]
  exact (rel.val k).getD rd
 ·subst ey
  cases (show u = Value.ref b from ry)
  obtain ⟨z, hd, xs, rel, dd⟩ := zaoy I.hok e
  refine call_meetsIn PySem.F.slot_dict_get dd.typeIs PySem.F.entry_dict_get (PySem.F.args_dict_get_3 _ _ _) (meetsH_dict_get_default (tupleKind (mixKind X.prog X.w)) a b hd r) ⟨tupleKind_room_in1 hu, k, xs, zal4 I.hok eb, dd, h _ _ (I.tok _) ?_⟩
  rw [l]
  exact (rel.val k).getD rd
end
def tDGet1 (td ty : TE) : TE := fun σ H Q => td σ H fun x H1 => ∃ a, x = .ref a ∧ IsD H1 a ∧ ty σ H1 fun y H2 => ∃ o, DGet H2 a y o ∧ Q (o.getD .non) H2
def tDGet2 (td ty tx : TE) : TE := fun σ H Q => td σ H fun x H1 => ∃ a, x = .ref a ∧ IsD H1 a ∧ ty σ H1 fun y H2 => tx σ H2 fun z H3 => ∃ o, DGet H3 a y o ∧ Q (o.getD z) H3
def tDPop1 (td ty : TE) : TE := fun σ H Q => td σ H fun x H1 => ∃ a, x = .ref a ∧ IsD H1 a ∧ ty σ H1 fun y H2 => ∃ kvs k v, H2 a = some (.dK kvs) ∧ y = kV k ∧ valV kvs k = some v ∧ Q v (upd H2 a (.dK (dropK kvs k)))
def tDPop2 (td ty tx : TE) : TE := fun σ H Q => td σ H fun x H1 => ∃ a, x = .ref a ∧ IsD H1 a ∧ ty σ H1 fun y H2 => tx σ H2 fun z H3 => ∃ kvs k, H3 a = some (.dK kvs) ∧ y = kV k ∧
 (∀ v, valV kvs k = some v → Q v (upd H3 a (.dK (dropK kvs k)))) ∧ (valV kvs k = none → Q z H3)
section
variable {X : Cx} {o e f : Expr} {apos cpos : Pos} {td ty tx : TE}
theorem zak4 (hu : X.A.units + 1 < cLine) (ho : PE X o td) (he : PE X e ty) (hf : PE X f tx) (m : M2 X o "get" apos e f cpos) : PE X (.Call (.Attribute o "get" apos) [e, f] [] cpos) (tDGet2 td ty tx) := by
 intro pins s σ H Q I h
 refine wpAny_Call_method m.base m.few m.line PySem.F.plainAttrs_dict PySem.F.slot_dict_get PySem.F.type_dict_get (thn (ho pins s σ H _ I h) fun u s1 ⟨x, H1, I1, rx, a, ex, d, q1⟩ => ?_)
 subst ex
 obtain rfl : u = Value.ref a := rx
 obtain ⟨t1, t2, _⟩ := zao0 I1 d
 refine ⟨t1, t2, ?_⟩
 rw [m.trees]
 refine Calls.callWith_builtin rfl (Calls.evalArgs_plain (Calls.spliced_cons (thn (he pins s1 σ H1 _ I1 q1) fun iv s2 ⟨y, H2, I2, ry, q2⟩ =>
  Calls.spliced_cons (thn (hf pins s2 σ H2 _ I2 q2) fun fv s3 ⟨z, H3, I3, rz, ov, g, q3⟩ => Calls.spliced_nil ?_))))
 exact zao1 hu I3 g ry rz fun w' s4 I4 rw' => ⟨_, H3, I4, rw', q3⟩
end
section
variable {X : Cx} {pins : List (Addr × Obj)} {σ : St} {H : Hp} {s : Shared} {a : Addr} {kvs : List (Key × V)} {A : Around} {E : Value → Shared → Prop}
end
section
variable {X : Cx} {pins : List (Addr × Obj)} {σ : St} {H : Hp} {s : Shared} {a : Addr} {y : V} {u : Value} {A : Around} {E : Value → Shared → Prop}
end
section
variable {X : Cx}
end
section
variable {κ : Type} [DecidableEq κ]
end
end L2

namespace L2
open PySem PySem.Spec PyProof.Rows
structure DefOk (P : Program) (w : World) (K : PySem.W.Frag) (mg : Str → Option Value) (base : Heap) (CX : CXT) (k : Nat) (x : Str) (ps : List Str) (sp : Sp) : Prop where
 ex : ∃ (f : Addr) (fd : FuncData), FnOk P w K mg base CX k f fd ps sp ∧ Binds K fd ps [] ∧ PySem.W.keepIn K (.ref f) = true ∧ mg x = some (.ref f)
theorem DefOk.mono {P : Program} {w : World} {K : PySem.W.Frag} {mg : Str → Option Value} {base : Heap} {CX : CXT} {j k : Nat} {x : Str} {ps : List Str} {sp : Sp} (D : DefOk P w K mg base CX j x ps sp) (h : j ≤ k) : DefOk P w K mg base CX k x ps sp := by
 obtain ⟨f, fd, F, b⟩ := D.ex
 exact ⟨f, fd, F.mono h, b⟩
section
variable {X : Cx} {CX : CXT} {k : Nat} {ps : List Str} {sp : Sp} {E : XK} {x : Str} {p pos : Pos} {e : Expr} {es : List Expr} {t : TA}
theorem zak5 (D : DefOk X.prog X.w X.K X.mg X.base CX k x ps sp) (hr : Room k X.A) (hg : Gl X x) (hx : Passes CX X E) (ha : PA X (e :: es) t) (hdb : (x == ("__debug__" : Str)) = false := by decide)
  (he : starEach (e :: es) X.env = (false, eval e X.env) :: starEach es X.env := by rfl) (hpl : (backTo pos (starEach es X.env)).any (·.1) = false := by rfl) :
  PE X (.Call (.Name x p) (e :: es) [] pos) (tCall sp [] E t) := by
 obtain ⟨f, fd, F, b, kp, m⟩ := D.ex
 exact zamq F hr hg m kp b .nil hx ha hdb he hpl
end
def CDivW (_ j : Int) : Prop := 0 < j ∧ j < 2 ^ 64
theorem zabs {X : Cx} : OpR X (binaryOp .FloorDiv) (rI CDivW fun i j => .int (i / j)) := opI fun i j _ _ _ _ _ hc q => by
 have h1 : (0 : Int) < j := hc.1
 have h2 : j < 2 ^ 64 := hc.2
 have h3 : j.natAbs.log2 < 64 := (Nat.log2_lt (by omega)).mpr (by omega)
 exact floordiv_int (by omega) (by rw [Int.fdiv_eq_ediv_of_nonneg i (by omega)]; exact q) (.inl (PyProof.noPylong_of_log2 (by omega)))
def Ch (W : List Addr) (H H' : Hp) : Prop := ∀ b o, H b = some o → b ∉ W → H' b = some o
theorem Ch.refl (W : List Addr) (H : Hp) : Ch W H H := fun _ _ h _ => h
theorem Ch.trans {W : List Addr} {H H1 H2 : Hp} (a : Ch W H H1) (b : Ch W H1 H2) : Ch W H H2 := fun c o h n => b c o (a c o h n) n
theorem Ch.get {W : List Addr} {H H' : Hp} {b : Addr} {o : HO} (c : Ch W H H') (h : H b = some o) (n : b ∉ W) : H' b = some o := c b o h n
theorem Ch.mono {W W' : List Addr} {H H' : Hp} (c : Ch W H H') (h : ∀ b ∈ W, b ∈ W') : Ch W' H H' := fun b o q n => c b o q fun z => n (h b z)
theorem Ch.wk {W : List Addr} {H H' : Hp} (c : Ch [] H H') : Ch W H H' := c.mono fun b h => nomatch h
theorem Ch.new {W : List Addr} {H : Hp} {p : Addr} (h : H p = none) (o : HO) : Ch W H (upd H p o) := fun b u q _ => by rw [zaax (zaan q h)]; exact q
theorem Ch.put {H : Hp} {p : Addr} {o : HO} : Ch [p] H (upd H p o) := fun b u q n => by rw [zaax (fun z => n (by simp [z]))]; exact q
def Scr (K : PySem.W.Frag) (H : Hp) (a : Addr) (ns : List Int) : Prop :=
 ns.length ≤ 63 ∧ ((∃ o, H a = some (.frz o (.lst (ns.map V.int)))) ∨
  ∃ (o : Obj) (its : Array Value) (n : Nat), K.lookup a = some o ∧ o.cls = .type "list" ∧ o.dict = none ∧ o.data = .seq its n ∧ its.size ≤ sizeLine ∧ Vals (ns.map V.int) its.toList)
theorem Scr.sq {K : PySem.W.Frag} {H : Hp} {a : Addr} {ns : List Int} (S : Scr K H a ns) : SqL K H a (ns.map V.int) := by
 rcases S.2 with ⟨o, h⟩ | h
 ·exact .inl (.inr ⟨o, h⟩)
 ·exact .inr h
theorem Scr.ch {K : PySem.W.Frag} {H H' : Hp} {a b : Addr} {ns : List Int} {xs : List V} (S : Scr K H a ns) (hb : H b = some (.lst xs)) (c : Ch [b] H H') : Scr K H' a ns := by
 refine ⟨S.1, ?_⟩
 rcases S.2 with ⟨o, h⟩ | h
 ·exact .inl ⟨o, c.get h (by
   intro z
   have e : a = b := by simpa using z
   subst e
   rw [h] at hb
   cases hb)⟩
 ·exact .inr h
theorem Scr.same {K : PySem.W.Frag} {H H' : Hp} {a : Addr} {ns : List Int} (S : Scr K H a ns) (c : Ch [] H H') : Scr K H' a ns := by
 refine ⟨S.1, ?_⟩
 rcases S.2 with ⟨o, h⟩ | h
 ·exact .inl ⟨o, c.get h (by simp)⟩
 ·exact .inr h
theorem Scr.of {K : PySem.W.Frag} {H : Hp} {a : Addr} {ns : List Int} (h : SqL K H a (ns.map V.int)) (hl : ns.length ≤ 63) (hO : Only H) : Scr K H a ns := by
 refine ⟨hl, ?_⟩
 rcases h with (h | ⟨o, h⟩) | h
 ·rcases hO a with z | ⟨o, xs, z⟩
  ·rw [h] at z; cases z
  ·rw [h] at z; cases z
 ·exact .inl ⟨o, h⟩
 ·exact .inr h
theorem zaa3 {H : Hp} {p q : Addr} {o u : HO} (hq : H q = none) (h : H p = some o) : upd H q u p = some o := by rw [zaax (zaan h hq)]; exact h
theorem zacc {H : Hp} {p q : Addr} {o u : HO} (n : p ≠ q) (h : H p = some o) : upd H q u p = some o := by rw [zaax n]; exact h
structure Loop (J : It) (g : TG) (tb : TS) (D : Ends) (σ : St) (H : Hp) : Prop where
 ex : ∃ W : Nat → Nat → St → Hp → Prop, (∃ m, W 0 m σ H) ∧ ∀ i m σ H, W i m σ H →
  (J.stop i H ∧ D.nx σ H) ∨ (J.go i H ∧ ∃ N : St → Hp → Prop, (∀ σ' H', N σ' H' → ∃ m', m' < m ∧ W (i + 1) m' σ' H') ∧ ∀ x H', J.yld i H x H' → g x σ H' fun σ2 H2 => tb { D with nx := N, ct := N, bk := D.nx } σ2 H2)
def tLoop (wi : TI) (g : TG) (tb : TS) : TS := fun D σ H => wi σ H fun J H1 => Loop J g tb D σ H1
theorem zam2 {X : Cx} {tg iter : Expr} {body : List Stmt} {wi : TI} {g : TG} {tb : TS} {pos : Pos} (hp : PassesOwn (model X.prog X.w) X.A X.env X.xe) (hc : X.calm = true) (hi : PI X tg iter wi) (hg : PG X tg g) (hb : PSs X body tb)
  (hs : ∀ x, foldedSetIterable iter X.env x = pure x := by intro _; rfl) : PS X (.For tg iter body [] pos) (tLoop wi g tb) := by
 have hi' : PI X tg iter (fun σ H R => ∃ R0 : It → Hp → Prop, wi σ H R0 ∧ ∀ J H1, R0 J H1 → R J H1) := by
  intro pins s σ H R I ⟨R0, h, m⟩
  refine thn (hi pins s σ H _ I h) fun v s1 h1 => thn h1 fun itv s2 h2 => ?_
  obtain ⟨it, fp, tn, J, H2, e, I2, T, st2, f2, r⟩ := h2
  exact ⟨it, fp, tn, J, H2, e, I2, T, st2, f2, m _ _ r⟩
 intro pins s σ H D I h
 exact zaoj hp hc hi' hg hb hs pins s σ H D I ⟨_, h, fun J H1 l => l.ex⟩
theorem zagn {K : PySem.W.Frag} {a : Addr} {xs : List V} {g : TG} {tb : TS} {D : Ends} {σ : St} {H : Hp} (Pv : Nat → St → Hp → Prop) (h0 : Pv 0 σ H) (hl : ∀ i σ H, i ≤ xs.length → Pv i σ H → SqL K H a xs)
  (hs : ∀ i x σ H, xs[i]? = some x → Pv i σ H → g x σ H fun σ2 H2 => tb { D with nx := Pv (i + 1), ct := Pv (i + 1), bk := D.nx } σ2 H2) (hd : ∀ σ H, Pv xs.length σ H → D.nx σ H) : Loop (Itl K a) g tb D σ H := ⟨zakt Pv h0 hl hs hd⟩
theorem zahv {K : PySem.W.Frag} {a : Addr} {xs : List V} {g : TG} {tb : TS} {D : Ends} {σ : St} {H : Hp} (Pv : Nat → St → Hp → Prop) (h0 : Pv 0 σ H) (hl : ∀ i σ H, i ≤ xs.length → Pv i σ H → SqT K H a xs)
  (hs : ∀ i x σ H, xs[i]? = some x → Pv i σ H → g x σ H fun σ2 H2 => tb { D with nx := Pv (i + 1), ct := Pv (i + 1), bk := D.nx } σ2 H2) (hd : ∀ σ H, Pv xs.length σ H → D.nx σ H) : Loop (Itt K a) g tb D σ H := ⟨zamk Pv h0 hl hs hd⟩
theorem zacd {lo : Int} {n : Nat} {g : TG} {tb : TS} {D : Ends} {σ : St} {H : Hp} (Pv : Nat → St → Hp → Prop) (h0 : Pv 0 σ H)
  (hs : ∀ i σ H, i < n → Pv i σ H → g (.int (lo + i)) σ H fun σ2 H2 => tb { D with nx := Pv (i + 1), ct := Pv (i + 1), bk := D.nx } σ2 H2) (hd : ∀ σ H, Pv n σ H → D.nx σ H) : Loop (Itr lo n) g tb D σ H := ⟨zai2 Pv h0 hs hd⟩
structure Cut (t u : TS) (D : Ends) (σ : St) (H : Hp) : Prop where
 ex : ∃ P : St → Hp → Prop, t { D with nx := P } σ H ∧ ∀ σ' H', P σ' H' → u D σ' H'
def tCut (t u : TS) : TS := fun D σ H => Cut t u D σ H
theorem zam3 {X : Cx} {st : Stmt} {rest : List Stmt} {t u : TS} (h1 : PS X st t) (h2 : PSs X rest u) : PSs X (st :: rest) (tCut t u) := by
 intro pins s σ H D I h
 obtain ⟨P, a, b⟩ := h.ex
 have h1' : PS X st (fun D' σ' H' => ∃ P : St → Hp → Prop, t { D' with nx := P } σ' H' ∧ ∀ σ2 H2, P σ2 H2 → D'.nx σ2 H2) := by
  intro pins s σ H D I ⟨P, a, b⟩
  refine thn (h1 pins s σ H _ I a) fun f s' q => ?_
  cases f with
  | next => obtain ⟨σ7, H7, I7, n7⟩ := q; exact ⟨σ7, H7, I7, b _ _ n7⟩
  | cont => exact q
  | brk => exact q
  | ret v => exact q
 exact zahq h1' h2 pins s σ H D I ⟨P, a, b⟩
theorem zac9 {t u : TS} {D : Ends} {σ : St} {H : Hp} (P : St → Hp → Prop) (h1 : t { D with nx := P } σ H) (h2 : ∀ σ' H', P σ' H' → u D σ' H') : Cut t u D σ H := ⟨P, h1, h2⟩
theorem zahw {ns : List Int} {i : Int} (h0 : 0 ≤ i) (h1 : i < (ns.length : Int)) : ∃ n : Int, atI (ns.map V.int) i = some (.int n) := by
 have hk : i.toNat < ns.length := by omega
 have ek : i = ((i.toNat : Nat) : Int) := by omega
 have q : atI (ns.map V.int) ((i.toNat : Nat) : Int) = some (.int ns[i.toNat]) := zadf (by rw [List.getElem?_map, List.getElem?_eq_getElem hk]; rfl)
 rw [← ek] at q
 exact ⟨_, q⟩
end L2

namespace L2
open PySem PySem.Spec PyProof.Rows
structure Atx {α : Type} (xs : List α) (i : Int) (R : α → Prop) : Prop where
 ex : ∃ v, atI xs i = some v ∧ R v
theorem Atx.of {α : Type} {xs : List α} {i : Int} {v : α} {R : α → Prop} (h : atI xs i = some v) (r : R v) : Atx xs i R := ⟨v, h, r⟩
theorem zak6 {α : Type} {xs : List α} {i : Int} (h0 : 0 ≤ i) (h1 : i < (xs.length : Int)) : ∃ h : i.toNat < xs.length, atI xs i = some xs[i.toNat] := by
 have hk : i.toNat < xs.length := by omega
 have ek : i = ((i.toNat : Nat) : Int) := by omega
 have q : atI xs ((i.toNat : Nat) : Int) = some xs[i.toNat] := zadf (List.getElem?_eq_getElem hk)
 rw [← ek] at q
 exact ⟨hk, q⟩
theorem Atx.any {α : Type} {xs : List α} {i : Int} {R : α → Prop} (h0 : 0 ≤ i) (h1 : i < (xs.length : Int)) (h : ∀ v, v ∈ xs → atI xs i = some v → R v) : Atx xs i R := by
 obtain ⟨hk, q⟩ := zak6 h0 h1
 exact ⟨_, q, h _ (List.getElem_mem hk) q⟩
section
variable {X : Cx}
theorem IxR.imp {r r' : R2} (h : IxR X r) (f : ∀ x y H Q, r' x y H Q → r x y H Q) : IxR X r' := fun value slice pins s σ H x y v u Q I rx ry q hs => h value slice pins s σ H x y v u Q I rx ry (f _ _ _ _ q) hs
def aIxL (K : PySem.W.Frag) : R2 := fun x y H Q => ∃ p xs i, x = .ref p ∧ y = .int i ∧ SqL K H p xs ∧ Atx xs i fun v => Q v H
def aIxT (K : PySem.W.Frag) : R2 := fun x y H Q => ∃ p xs i, x = .ref p ∧ y = .int i ∧ SqT K H p xs ∧ Atx xs i fun v => Q v H
def aIxS : R2 := fun x y H Q => ∃ z i, x = .str z ∧ y = .int i ∧ z.length ≤ sizeLine ∧ Atx z.cps.toList i fun c => Q (.str ⟨#[c]⟩) H
theorem zaba : IxR X (aIxL X.K) := zamv.imp fun x y H Q ⟨p, xs, i, e1, e2, h, a⟩ => let ⟨v, hv, q⟩ := a.ex; ⟨p, xs, i, v, e1, e2, h, hv, q⟩
theorem zabf : IxR X (aIxT X.K) := zaot.imp fun x y H Q ⟨p, xs, i, e1, e2, h, a⟩ => let ⟨v, hv, q⟩ := a.ex; ⟨p, xs, i, v, e1, e2, h, hv, q⟩
end
end L2
namespace L2
open PySem
section
variable {es : List Expr} {env : Env}
theorem zaae {x pos} : starEach (.Name x pos :: es) env = (false, eval (.Name x pos) env) :: starEach es env := rfl
theorem zaai {c k pos} : starEach (.Constant c k pos :: es) env = (false, eval (.Constant c k pos) env) :: starEach es env := rfl
theorem zabb {a o b pos} : starEach (.BinOp a o b pos :: es) env = (false, eval (.BinOp a o b pos) env) :: starEach es env := rfl
theorem zabx {a o pos} : starEach (.UnaryOp o a pos :: es) env = (false, eval (.UnaryOp o a pos) env) :: starEach es env := rfl
theorem zaa4 {a o b pos} : starEach (.Call a o b pos :: es) env = (false, eval (.Call a o b pos) env) :: starEach es env := rfl
theorem zabg {a k pos} : starEach (.Tuple a k pos :: es) env = (false, eval (.Tuple a k pos) env) :: starEach es env := rfl
theorem zam4 {a pos} : starEach (.List a pos :: es) env = (false, eval (.List a pos) env) :: starEach es env := rfl
theorem zaaq {a b pos} : starEach (.Subscript a b pos :: es) env = (false, eval (.Subscript a b pos) env) :: starEach es env := rfl
theorem zahx {a b c pos} : starEach (.IfExp a b c pos :: es) env = (false, eval (.IfExp a b c pos) env) :: starEach es env := rfl
theorem zabu {a b pos} : starEach (.Attribute a b pos :: es) env = (false, eval (.Attribute a b pos) env) :: starEach es env := rfl
theorem zab3 {a b c pos} : starEach (.ListComp a b c pos :: es) env = (false, eval (.ListComp a b c pos) env) :: starEach es env := rfl
end
end L2
namespace L2
open PySem
theorem Ch.own {W : List Addr} {H H' : Hp} {p : Addr} {o : HO} (n : H p = none) (c : Ch W H H') : Ch W H (upd H' p o) := fun b u h k => by
 rw [zaax (zaan h n)]
 exact c b u h k
theorem cut1 (x : V) (ys : List V) : cutV (x :: ys) (some 1) none = ys := by
 unfold cutV
 have e : HT.sIx (x :: ys).length 0 (some 1) = 1 := by
  have z := HT.sIx_nat (x :: ys).length 0 1
  rw [List.length_cons] at z ⊢
  refine z.trans ?_
  omega
 rw [e, HT.sIx_none, List.drop_succ_cons, List.drop_zero, List.take_of_length_le]
 simp
theorem zak7 (x : V) (ys : List V) : ¬ (HT.sIx (x :: ys).length 0 (some 1) = 0 ∧ HT.sIx (x :: ys).length (x :: ys).length none = (x :: ys).length) := by
 intro h
 have e : HT.sIx (x :: ys).length 0 (some 1) = 1 := by
  have z := HT.sIx_nat (x :: ys).length 0 1
  rw [List.length_cons] at z ⊢
  refine z.trans ?_
  omega
 rw [e] at h
 exact absurd h.1 (by decide)
end L2
namespace L2
open PySem
theorem Atx.head {α : Type} {x : α} {xs : List α} {R : α → Prop} (r : R x) : Atx (x :: xs) 0 R := ⟨x, zadf (j := 0) rfl, r⟩
end L2

namespace L2
open PySem PySem.Spec PyProof.Rows
inductive SK where
 | list | tuple
def SIt (k : SK) (h : Heap) (it l : Addr) (i : Nat) : Prop := match k with
 | .list => h.IsListIter it l i
 | .tuple => h.IsTupleIter it l i
def SIs (k : SK) (h : Heap) (l : Addr) (items : Array Value) : Prop := match k with
 | .list => h.IsList l items
 | .tuple => h.IsTuple l items
def Sq (k : SK) (K : PySem.W.Frag) (H : Hp) (a : Addr) (xs : List V) : Prop := match k with
 | .list => SqL K H a xs
 | .tuple => SqT K H a xs
theorem SIt.at {k : SK} {h h' : Heap} {a l i} (x : SIt k h a l i) (e : ∀ o, h.get? a = some o → h'.get? a = some o) : SIt k h' a l i := by
 cases k with
 | list => exact Heap.IsListIter.at x e
 | tuple => exact Heap.IsTupleIter.at x e
theorem SIt.obj {k : SK} {h : Heap} {a l i} (x : SIt k h a l i) : ∃ o, h.get? a = some o ∧ ∀ v, o.data ≠ .cell v := by
 cases k with
 | list => obtain ⟨o, e, c, d⟩ := (show h.IsListIter a l i from x); exact ⟨o, e, fun v z => by rw [d] at z; cases z⟩
 | tuple => obtain ⟨o, e, c, d⟩ := (show h.IsTupleIter a l i from x); exact ⟨o, e, fun v z => by rw [d] at z; cases z⟩
theorem SIs.at {k : SK} {h h' : Heap} {a items} (x : SIs k h a items) (e : ∀ o, h.get? a = some o → h'.get? a = some o) : SIs k h' a items := by
 cases k with
 | list => exact Heap.IsList.at x e
 | tuple => obtain ⟨o, ho, r⟩ := (show h.IsTuple a items from x); exact ⟨o, e _ ho, r⟩
theorem SIs.lt {k : SK} {h : Heap} {a items} (x : SIs k h a items) : a < h.objs.size := by
 cases k with
 | list => obtain ⟨_, e, _⟩ := (show h.IsList a items from x); exact Heap.lt_size e
 | tuple => obtain ⟨_, e, _⟩ := (show h.IsTuple a items from x); exact Heap.lt_size e
section
variable {prog : Program} {w : World} {A : Around} {E : Value → Shared → Prop} {s : Shared}
theorem zadt {it l : Addr} {i : Nat} {items} {x : Value} {Q : Value → Shared → Prop} (hit : s.heap.IsTupleIter it l i)
  (hl : s.heap.IsTuple l items) (hx : items[i]? = some x)
  (hQ : ∀ h', h'.IsTupleIter it l (i + 1) → Heap.SameBut it s.heap h' → Q x { s with heap := h' }) :
  wpAny (model prog w) A (Builtin.SmallTypes.nextOf (.ref it)) Q E s := by
 obtain ⟨o, ho, hc, hd⟩ := id hit
 obtain ⟨ol, hol, _, nl, hdl⟩ := hl
 unfold Builtin.SmallTypes.nextOf
 refine wpAny_bind (wpAny_callSpecial?_slot (name := Str.ofString "__next__") hit.typeIs F.slot_tuple_iterator_next
  (wpAny_call_entry F.slot_tuple_iterator_next hit.typeIs F.entry_tuple_iterator_next ?_ (F.args_tuple_iterator_next_1 _)))
 show wpAny _ _ (field (.ref it) 0 >>= _) _ _ s
 refine wpAny_bind (wpAny_field ho hd (x := .ref l) rfl ?_)
 show wpAny _ _ (if (Value.ref l == Value.none) = true then _ else _) _ _ s
 rw [if_neg (show ¬ ((Value.ref l == Value.none) = true) from Bool.false_ne_true)]
 show wpAny _ _ (field (.ref it) 1 >>= _) _ _ s
 refine wpAny_bind (wpAny_field ho hd (x := .int i 0) rfl ?_)
 show wpAny _ _ (seqItems? (.ref l) >>= _) _ _ s
 refine wpAny_bind (wpAny_seqItems hol hdl ?_)
 simp only [Int.toNat_natCast, hx]
 refine wpAny_bind (wpAny_setField ho hd (by simp) (wpAny_pure ⟨x, rfl, wpAny_pure (hQ _ ?_ (Heap.SameBut.update ..))⟩))
 exact ⟨_, Heap.get?_update_self _ ho (Obj.isFreed_of_fields (Obj.data_mapFields hd _)), (Obj.cls_mapFields ..).trans hc, by
  rw [Obj.data_mapFields hd]; simp [rawInt]⟩
theorem zaed {it l : Addr} {i : Nat} {items} {Q : Value → Shared → Prop} (hh : A.handled = none)
  (hit : s.heap.IsTupleIter it l i) (hl : s.heap.IsTuple l items) (hx : items[i]? = none)
  (hE : ∀ h' e, Heap.ExtBut it s.heap h' → (∃ o, h'.get? e = some o ∧ o.cls = .type "StopIteration") → E (.ref e) { s with heap := h' }) :
  wpAny (model prog w) A (Builtin.SmallTypes.nextOf (.ref it)) Q E s := by
 obtain ⟨o, ho, hc, hd⟩ := id hit
 obtain ⟨ol, hol, _, nl, hdl⟩ := hl
 unfold Builtin.SmallTypes.nextOf
 refine wpAny_bind (wpAny_callSpecial?_slot (name := Str.ofString "__next__") hit.typeIs F.slot_tuple_iterator_next
  (wpAny_call_entry F.slot_tuple_iterator_next hit.typeIs F.entry_tuple_iterator_next ?_ (F.args_tuple_iterator_next_1 _)))
 show wpAny _ _ (field (.ref it) 0 >>= _) _ _ s
 refine wpAny_bind (wpAny_field ho hd (x := .ref l) rfl ?_)
 show wpAny _ _ (if (Value.ref l == Value.none) = true then _ else _) _ _ s
 rw [if_neg (show ¬ ((Value.ref l == Value.none) = true) from Bool.false_ne_true)]
 show wpAny _ _ (field (.ref it) 1 >>= _) _ _ s
 refine wpAny_bind (wpAny_field ho hd (x := .int i 0) rfl ?_)
 show wpAny _ _ (seqItems? (.ref l) >>= _) _ _ s
 refine wpAny_bind (wpAny_seqItems hol hdl ?_)
 simp only [Int.toNat_natCast, hx]
 refine wpAny_bind (wpAny_rule (wpAny_bind (wpAny_setField ho hd (by simp) ?_)))
 show wpAny _ _ (newExc (.type "StopIteration") [] >>= _) _ _ _
 refine wpAny_bind ?_
 simp only [newExc, newTuple]
 refine wpAny_bind (wpAny_newObj_type ?_ (by size_fits))
 refine wpAny_bind (m := firstArgMember _ _) (wpAny_of_eq (a := Value.none) (by first | rfl | (simp only [firstArgMember]; rfl)) ?_)
 refine wpAny_newObj_type ?_ (by size_fits)
 simp only [raiseNew]
 refine wpAny_bind (wpAny_handled ?_)
 first | rw [show A.in1.handled = none from hh] | rw [hh]
 refine wpAny_bind (wpAny_pure (wpAny_throw ?_))
 exact hE _ _ (((Heap.SameBut.update ..).extBut.push _).push _) ⟨_, Heap.get?_push_size _ rfl, rfl⟩
theorem zacy {k : SK} {it l : Addr} {i : Nat} {items} {x : Value} {Q : Value → Shared → Prop} (hit : SIt k s.heap it l i) (hl : SIs k s.heap l items) (hx : items[i]? = some x)
  (hQ : ∀ h', SIt k h' it l (i + 1) → Heap.SameBut it s.heap h' → Q x { s with heap := h' }) : wpAny (model prog w) A (Builtin.SmallTypes.nextOf (.ref it)) Q E s := by
 cases k with
 | list => exact wpAny_nextOf_list_item hit hl hx hQ
 | tuple => exact zadt hit hl hx hQ
theorem zadu {k : SK} {it l : Addr} {i : Nat} {items} {Q : Value → Shared → Prop} (hh : A.handled = none) (hit : SIt k s.heap it l i) (hl : SIs k s.heap l items) (hx : items[i]? = none)
  (hE : ∀ h' e, Heap.ExtBut it s.heap h' → (∃ o, h'.get? e = some o ∧ o.cls = .type "StopIteration") → E (.ref e) { s with heap := h' }) :
  wpAny (model prog w) A (Builtin.SmallTypes.nextOf (.ref it)) Q E s := by
 cases k with
 | list => exact wpAny_nextOf_list_end hh hit hl hx hE
 | tuple => exact zaed hh hit hl hx hE
theorem SIt.ext {k : SK} {h h' : Heap} {a b l i} (x : SIt k h a l i) (hs : Heap.ExtBut b h h') (hab : a ≠ b) : SIt k h' a l i := x.at fun o e => hs _ _ hab e
theorem SIs.ext {k : SK} {h h' : Heap} {a b items} (x : SIs k h a items) (hs : Heap.ExtBut b h h') (hab : a ≠ b) : SIs k h' a items := x.at fun o e => hs _ _ hab e
theorem zaji {k1 k2 : SK} {z TI TO i1 i2 l1 l2 : Addr} {n1 n2 : Nat} {xs ys : Array Value} {x y a b : Value} {Q : Value → Shared → Prop} (D : ZipApart z TI TO i1 i2 l1 l2)
  (hz : IsZip s.heap z TI TO .none) (hTI : IsPair s.heap TI (.ref i1) (.ref i2)) (hTO : IsPair s.heap TO a b)
  (h1 : SIt k1 s.heap i1 l1 n1) (h2 : SIt k2 s.heap i2 l2 n2) (hl1 : SIs k1 s.heap l1 xs) (hl2 : SIs k2 s.heap l2 ys) (hx : xs[n1]? = some x) (hy : ys[n2]? = some y)
  (hQ : ∀ h', IsZip h' z TI TO (rawInt s.heap.objs.size) → IsPair h' TO x y → SIt k1 h' i1 l1 (n1 + 1) → SIt k2 h' i2 l2 (n2 + 1) → IsPair h' s.heap.objs.size x y → h'.objs.size = s.heap.objs.size + 1 →
   (∀ c o, c ≠ z → c ≠ TO → c ≠ i1 → c ≠ i2 → s.heap.get? c = some o → h'.get? c = some o) → Q (.ref s.heap.objs.size) { s with heap := h' }) :
  wpAny (model prog w) A (Builtin.«zip.__next__» ⟨[.ref z], []⟩) (fun fin s' => ∃ v, fin = .done (.ret v) ∧ Q v s') E s := by
 show wpAny _ _ (field (.ref z) 2 >>= _) _ _ _
 refine wpAny_bind (wpAny_field hz rfl (x := .bool false) rfl ?_)
 show wpAny _ _ (field (.ref z) 3 >>= _) _ _ _
 refine wpAny_bind (wpAny_field hz rfl (x := .ref TI) rfl ?_)
 refine wpAny_bind (wpAny_seqItems hTI rfl ?_)
 show wpAny _ _ (Builtin.SmallTypes.ownedTupleIsFree (.ref z) >>= _) _ _ _
 refine wpAny_bind ?_
 unfold Builtin.SmallTypes.ownedTupleIsFree
 refine wpAny_bind (wpAny_field hz rfl (x := .none) rfl (wpAny_pure ?_))
 simp only [if_true]
 refine wpAny_bind (wpAny_rule ?_)
 refine wpAny_bind (wpAny_field hz rfl (x := .ref TO) rfl ?_)
 refine wpAny_bind (wpAny_setField_rec hz (by simp) fun h₁ hz₁ hs₁ => ?_)
 replace hz₁ : IsZip h₁ z TI TO .ellipsis := hz₁
 refine wpAny_bind ?_
 simp only [List.zipIdx_cons, List.zipIdx_nil, List.forIn_cons, List.forIn_nil]
 refine wpAny_bind (wpAny_bind (wpAny_onRaise ?_))
 show wpAny _ _ (Builtin.SmallTypes.nextOf (.ref i1) >>= _) _ _ _
 refine wpAny_bind (zacy (h1.ext hs₁.extBut D.i1z) (hl1.ext hs₁.extBut D.l1z) hx fun h₂ h1₂ hs₂ => wpAny_pure ?_)
 have hTO₂ : IsPair h₂ TO a b := hs₂.extBut _ _ D.TOi1 (hs₁.extBut _ _ D.TOz hTO)
 refine wpAny_bind (wpAny_seqItems hTO₂ rfl ?_)
 refine wpAny_bind (wpAny_updateSeq_pair hTO₂ fun h₃ hTO₃ hs₃ => ?_)
 replace hTO₃ : IsPair h₃ TO x b := hTO₃
 refine wpAny_bind (wpAny_letGo (wpAny_pure ?_))
 refine wpAny_bind (wpAny_bind (wpAny_onRaise ?_))
 show wpAny _ _ (Builtin.SmallTypes.nextOf (.ref i2) >>= _) _ _ _
 refine wpAny_bind (zacy (((h2.ext hs₁.extBut D.i2z).ext hs₂.extBut D.i12.symm).ext hs₃.extBut D.TOi2.symm)
  (((hl2.ext hs₁.extBut D.l2z).ext hs₂.extBut D.l2i1).ext hs₃.extBut D.l2TO) hy fun h₄ h2₄ hs₄ => wpAny_pure ?_)
 have hTO₄ : IsPair h₄ TO x b := hs₄.extBut _ _ D.TOi2 hTO₃
 refine wpAny_bind (wpAny_seqItems hTO₄ rfl ?_)
 refine wpAny_bind (wpAny_updateSeq_pair hTO₄ fun h₅ hTO₅ hs₅ => ?_)
 replace hTO₅ : IsPair h₅ TO x y := hTO₅
 refine wpAny_bind (wpAny_letGo (wpAny_pure (wpAny_pure ?_)))
 refine wpAny_bind (wpAny_seqItems hTO₅ rfl ?_)
 refine wpAny_bind (wpAny_newTuple ?_)
 have hsz : h₅.objs.size = s.heap.objs.size := by rw [hs₅.1, hs₄.1, hs₃.1, hs₂.1, hs₁.1]
 have hz₅ : IsZip h₅ z TI TO .ellipsis := hs₅.extBut _ _ D.TOz.symm (hs₄.extBut _ _ D.i2z.symm (hs₃.extBut _ _ D.TOz.symm (hs₂.extBut _ _ D.i1z.symm hz₁)))
 have hk₅ : ∀ c o, c ≠ z → c ≠ TO → c ≠ i1 → c ≠ i2 → s.heap.get? c = some o → h₅.get? c = some o := fun c o c1 c2 c3 c4 e =>
  hs₅.extBut _ _ c2 (hs₄.extBut _ _ c4 (hs₃.extBut _ _ c2 (hs₂.extBut _ _ c3 (hs₁.extBut _ _ c1 e))))
 have h1₅ : SIt k1 h₅ i1 l1 (n1 + 1) := ((h1₂.ext hs₃.extBut D.TOi1.symm).ext hs₄.extBut D.i12).ext hs₅.extBut D.TOi1.symm
 have h2₅ : SIt k2 h₅ i2 l2 (n2 + 1) := h2₄.ext hs₅.extBut D.TOi2.symm
 have hzlt : z < h₅.objs.size := Heap.lt_size hz₅
 show wpAny _ _ (Builtin.SmallTypes.ownedTupleHandOut (.ref z) (.ref h₅.objs.size) >>= _) _ _ _
 refine wpAny_bind ?_
 unfold Builtin.SmallTypes.ownedTupleHandOut
 have hz₆ : IsZip (h₅.push { cls := .type "tuple", data := .seq #[x, y] }) z TI TO .ellipsis := Heap.get?_push_of_some _ hz₅
 refine wpAny_bind (wpAny_setField_rec hz₆ (by simp) fun h₇ hz₇ hs₇ => ?_)
 replace hz₇ : IsZip h₇ z TI TO (rawInt h₅.objs.size) := hz₇
 refine wpAny_setField_rec hz₇ (by simp) fun h₈ hz₈ hs₈ => ?_
 replace hz₈ : IsZip h₈ z TI TO (rawInt h₅.objs.size) := hz₈
 have up : ∀ c o, c ≠ z → h₅.get? c = some o → h₈.get? c = some o := fun c o c1 e => hs₈.extBut _ _ c1 (hs₇.extBut _ _ c1 (Heap.get?_push_of_some _ e))
 have hT₈ : IsPair h₈ h₅.objs.size x y := hs₈.extBut _ _ (Nat.ne_of_gt hzlt) (hs₇.extBut _ _ (Nat.ne_of_gt hzlt) (Heap.get?_push_size _ rfl))
 have hz8 : h₈.objs.size = h₅.objs.size + 1 := by rw [hs₈.1, hs₇.1, Heap.size_push]
 rw [hsz] at hz₈ hT₈ hz8
 refine wpAny_pure ⟨_, rfl, ?_⟩
 show Q (.ref h₅.objs.size) _
 rw [hsz]
 exact hQ h₈ hz₈ (up _ _ D.TOz hTO₅) (h1₅.at fun o e => up _ o D.i1z e) (h2₅.at fun o e => up _ o D.i2z e) hT₈ hz8 fun c o c1 c2 c3 c4 e => up c o c1 (hk₅ c o c1 c2 c3 c4 e)
theorem zak8 {k1 k2 : SK} {z TI TO i1 i2 l1 l2 : Addr} {n1 n2 : Nat} {xs ys : Array Value} {a b : Value} {Q : Fin → Shared → Prop} (hh : A.handled = none) (D : ZipApart z TI TO i1 i2 l1 l2)
  (hz : IsZip s.heap z TI TO .none) (hTI : IsPair s.heap TI (.ref i1) (.ref i2)) (hTO : IsPair s.heap TO a b)
  (h1 : SIt k1 s.heap i1 l1 n1) (h2 : SIt k2 s.heap i2 l2 n2) (hl1 : SIs k1 s.heap l1 xs) (hl2 : SIs k2 s.heap l2 ys) (hend : xs[n1]? = none ∨ ys[n2]? = none)
  (hE : ∀ h' e, (∀ c o, c ≠ z → c ≠ TO → c ≠ i1 → c ≠ i2 → s.heap.get? c = some o → h'.get? c = some o) → (∃ o, h'.get? e = some o ∧ o.cls = .type "StopIteration") → E (.ref e) { s with heap := h' }) :
  wpAny (model prog w) A (Builtin.«zip.__next__» ⟨[.ref z], []⟩) Q E s := by
 show wpAny _ _ (field (.ref z) 2 >>= _) _ _ _
 refine wpAny_bind (wpAny_field hz rfl (x := .bool false) rfl ?_)
 show wpAny _ _ (field (.ref z) 3 >>= _) _ _ _
 refine wpAny_bind (wpAny_field hz rfl (x := .ref TI) rfl ?_)
 refine wpAny_bind (wpAny_seqItems hTI rfl ?_)
 show wpAny _ _ (Builtin.SmallTypes.ownedTupleIsFree (.ref z) >>= _) _ _ _
 refine wpAny_bind ?_
 unfold Builtin.SmallTypes.ownedTupleIsFree
 refine wpAny_bind (wpAny_field hz rfl (x := .none) rfl (wpAny_pure ?_))
 simp only [if_true]
 refine wpAny_bind (wpAny_rule ?_)
 refine wpAny_bind (wpAny_field hz rfl (x := .ref TO) rfl ?_)
 refine wpAny_bind (wpAny_setField_rec hz (by simp) fun h₁ hz₁ hs₁ => ?_)
 replace hz₁ : IsZip h₁ z TI TO .ellipsis := hz₁
 refine wpAny_bind ?_
 simp only [List.zipIdx_cons, List.zipIdx_nil, List.forIn_cons, List.forIn_nil]
 refine wpAny_bind (wpAny_bind (wpAny_onRaise ?_))
 show wpAny _ _ (Builtin.SmallTypes.nextOf (.ref i1) >>= _) _ _ _
 cases hx : xs[n1]? with
 | none =>
  refine wpAny_bind (zadu hh (h1.ext hs₁.extBut D.i1z) (hl1.ext hs₁.extBut D.l1z) hx fun h₂ e hs₂ he => ?_)
  obtain ⟨oe, hoe, hce⟩ := he
  have hz₂ : IsZip h₂ z TI TO .ellipsis := hs₂ _ _ D.i1z.symm hz₁
  have hez : e ≠ z := fun x => by subst x; rw [hz₂] at hoe; cases hoe; simp at hce
  refine wpAny_setField_rec hz₂ (by simp) fun h₃ _ hs₃ => hE h₃ e (fun c o c1 _ c3 _ x => hs₃.extBut _ _ c1 (hs₂ _ _ c3 (hs₁.extBut _ _ c1 x))) ⟨oe, hs₃.extBut _ _ hez hoe, hce⟩
 | some x =>
  have hy : ys[n2]? = none := by rcases hend with h | h; rw [hx] at h; cases h; exact h
  refine wpAny_bind (zacy (h1.ext hs₁.extBut D.i1z) (hl1.ext hs₁.extBut D.l1z) hx fun h₂ h1₂ hs₂ => wpAny_pure ?_)
  have hTO₂ : IsPair h₂ TO a b := hs₂.extBut _ _ D.TOi1 (hs₁.extBut _ _ D.TOz hTO)
  refine wpAny_bind (wpAny_seqItems hTO₂ rfl ?_)
  refine wpAny_bind (wpAny_updateSeq_pair hTO₂ fun h₃ hTO₃ hs₃ => ?_)
  refine wpAny_bind (wpAny_letGo (wpAny_pure ?_))
  refine wpAny_bind (wpAny_bind (wpAny_onRaise ?_))
  show wpAny _ _ (Builtin.SmallTypes.nextOf (.ref i2) >>= _) _ _ _
  refine wpAny_bind (zadu hh (((h2.ext hs₁.extBut D.i2z).ext hs₂.extBut D.i12.symm).ext hs₃.extBut D.TOi2.symm)
   (((hl2.ext hs₁.extBut D.l2z).ext hs₂.extBut D.l2i1).ext hs₃.extBut D.l2TO) hy fun h₄ e hs₄ he => ?_)
  obtain ⟨oe, hoe, hce⟩ := he
  have hz₄ : IsZip h₄ z TI TO .ellipsis := hs₄ _ _ D.i2z.symm (hs₃.extBut _ _ D.TOz.symm (hs₂.extBut _ _ D.i1z.symm hz₁))
  have hez : e ≠ z := fun x => by subst x; rw [hz₄] at hoe; cases hoe; simp at hce
  refine wpAny_setField_rec hz₄ (by simp) fun h₅ _ hs₅ => hE h₅ e (fun c o c1 c2 c3 c4 x => hs₅.extBut _ _ c1 (hs₄ _ _ c4 (hs₃.extBut _ _ c2 (hs₂.extBut _ _ c3 (hs₁.extBut _ _ c1 x))))) ⟨oe, hs₅.extBut _ _ hez hoe, hce⟩
end
section
variable {X : Cx} {pins : List (Addr × Obj)} {σ : List (Option V)} {H H' : Hp} {s : Shared} {h' : Heap}
theorem Inv.turnedL {t' : Nat} {its : List Addr} (I : Inv X pins σ H s) (k : ∀ b o, b ∉ its → s.heap.get? b = some o → h'.get? b = some o) (hf : ∀ b ∈ its, FpOk X pins H b) : Inv X pins σ H { s with heap := h', toks := t' } := by
 have nit : ∀ b u, H b = some u → b ∉ its := fun b u e z => by rw [(hf b z).1] at e; cases e
 refine I.step (g' := s.gens) (d' := s.drawn) (ch := its) (fun b hb => ?_) (fun b o _ _ hc e _ => k b o hc e) (fun b o _ _ hc e _ => ⟨o.slots, k b o hc e⟩) (fun _ _ _ _ n => n)
  (fun b o hc e => ⟨o, k b o hc e⟩) (fun _ _ e => e) (fun _ _ _ e => e) (fun b ps e => ⟨#[], by rw [e]; simp⟩) (fun m hm => ?_) (fun b u e => ?_) I.bare
 ·obtain ⟨f0, f1, f2, f3, f4, f5⟩ := hf b hb
  exact ⟨f3, f1, f4, f5⟩
 ·obtain ⟨o, es, ep, ho, r⟩ := hm
  exact ⟨o, es, ep, k _ o (fun z => (hf _ z).2.1 rfl) ho, r⟩
 ·refine (I.hok b u e).stay (fun c v hc q => k c v ?_ q) (fun _ q => q) fun _ _ q => q
  rcases hc with z | z
  ·rw [z]; exact nit b u e
  ·exact nit c _ z
theorem Inv.turnedNew {t' : Nat} {its : List Addr} {T : Addr} {o : HO} (I : Inv X pins σ H s) (k : ∀ b ob, b ∉ its → s.heap.get? b = some ob → h'.get? b = some ob) (hf : ∀ b ∈ its, FpOk X pins H b)
  (hT : s.heap.objs.size ≤ T) (new : ObjOk X.prog X.w (upd H T o) h' T o) : Inv X pins σ (upd H T o) { s with heap := h', toks := t' } := by
 have nit : ∀ b u, H b = some u → b ∉ its := fun b u e z => by rw [(hf b z).1] at e; cases e
 have hn : H T = none := I.hok.fresh hT
 have neT : ∀ b ob, s.heap.get? b = some ob → b ≠ T := fun b ob e => Nat.ne_of_lt (Nat.lt_of_lt_of_le (Heap.lt_size e) hT)
 have up : ∀ b u, H b = some u → upd H T o b = some u := fun b u e => by rw [zaax (zaan e hn)]; exact e
 refine I.step (g' := s.gens) (d' := s.drawn) (ch := its) (fun b hb => ?_) (fun b ob _ _ hc e _ => k b ob hc e) (fun b ob _ _ hc e _ => ⟨ob.slots, k b ob hc e⟩) (fun b ob _ e n => by rw [zaax (neT b ob e)]; exact n)
  (fun b ob hc e => ⟨ob, k b ob hc e⟩) (fun b _ e => up b _ e) (fun b _ _ e => up b _ e) (fun b ps e => ⟨#[], by rw [up b _ e]; simp⟩) (fun m hm => ?_) (fun b u e => ?_) I.bare
 ·obtain ⟨f0, f1, f2, f3, f4, f5⟩ := hf b hb
  exact ⟨f3, f1, f4, f5⟩
 ·obtain ⟨ob, es, ep, ho, r⟩ := hm
  exact ⟨ob, es, ep, k _ ob (fun z => (hf _ z).2.1 rfl) ho, r⟩
 ·by_cases hb : b = T
  ·subst hb; rw [zaak] at e; cases e; exact new
  ·rw [zaax hb] at e
   refine (I.hok b u e).stay (fun c v hc q => k c v ?_ q) (fun c q => up c _ q) fun c xs q => up c _ q
   rcases hc with z | z
   ·rw [z]; exact nit b u e
   ·exact nit c _ z
end
theorem Inv.sis {X : Cx} {pins : List (Addr × Obj)} {σ : St} {H : Hp} {s : Shared} {k : SK} {a : Addr} {xs : List V} (I : Inv X pins σ H s) (h : Sq k X.K H a xs) : ∃ its : List Value, Vals xs its ∧ SIs k s.heap a its.toArray := by
 cases k with
 | list => obtain ⟨its, r, p, _⟩ := I.list h; exact ⟨its, r, p.isList⟩
 | tuple => obtain ⟨its, r, p, _⟩ := I.tuple h; exact ⟨its, r, (show s.heap.IsTuple a its.toArray from p)⟩
theorem Inv.sq_inj {X : Cx} {pins : List (Addr × Obj)} {σ : St} {H : Hp} {s : Shared} {k : SK} {a : Addr} {xs ys : List V} (I : Inv X pins σ H s) (h : Sq k X.K H a xs) (h' : Sq k X.K H a ys) : xs = ys := by
 cases k with
 | list => exact I.list_inj h h'
 | tuple => exact I.tuple_inj h h'
def Itz (K : PySem.W.Frag) (k1 k2 : SK) (a b : Addr) : It :=
 ⟨fun i H => ∃ xs ys x y, Sq k1 K H a xs ∧ Sq k2 K H b ys ∧ xs[i]? = some x ∧ ys[i]? = some y,
  fun i H v H' => ∃ T, H T = none ∧ v = .ref T ∧ ∀ xs ys, Sq k1 K H a xs → Sq k2 K H b ys → ∃ x y, xs[i]? = some x ∧ ys[i]? = some y ∧ H' = upd H T (.tup [x, y]),
  fun i H => ∃ xs ys, Sq k1 K H a xs ∧ Sq k2 K H b ys ∧ (xs.length ≤ i ∨ ys.length ≤ i)⟩
theorem zak9 {P : Program} {w : World} {K : PySem.W.Frag} {elts : List Expr} {kk : Nat} {tpos : Pos} {k1 k2 : SK} {z TI TO i1 i2 a b : Addr} (D : ZipApart z TI TO i1 i2 a b) :
  Turn P w K (.Tuple elts kk tpos) (Itz K k1 k2 a b) [z, TI, TO, i1, i2] z (fun i h => IsZip h z TI TO .none ∧ IsPair h TI (.ref i1) (.ref i2) ∧ (∃ c d, IsPair h TO c d) ∧ SIt k1 h i1 a i ∧ SIt k2 h i2 b i) where
 mem := by simp
 obj := fun i h st b hb => by
  obtain ⟨hz, hTI, ⟨c, d, hTO⟩, h1, h2⟩ := st
  simp only [List.mem_cons, List.not_mem_nil, or_false] at hb
  rcases hb with rfl | rfl | rfl | rfl | rfl
  ·exact ⟨_, hz, fun v q => nomatch q⟩
  ·exact ⟨_, hTI, fun v q => nomatch q⟩
  ·exact ⟨_, hTO, fun v q => nomatch q⟩
  ·exact h1.obj
  ·exact h2.obj
 keep := fun i h h' st k => by
  obtain ⟨hz, hTI, ⟨c, d, hTO⟩, h1, h2⟩ := st
  exact ⟨k _ (by simp) _ hz, k _ (by simp) _ hTI, ⟨c, d, k _ (by simp) _ hTO⟩, h1.at fun o e => k _ (by simp) o e, h2.at fun o e => k _ (by simp) o e⟩
 item := by
  intro X hP hw hK hc i pins s σ H E I hf st hg
  subst hP hw hK
  obtain ⟨hz, hTI, ⟨c, d, hTO⟩, h1, h2⟩ := st
  obtain ⟨xs, ys, x, y, q1, q2, hx, hy⟩ := hg
  obtain ⟨ix, rx, px⟩ := I.sis q1
  obtain ⟨iy, ry, py⟩ := I.sis q2
  obtain ⟨u, hu, ru⟩ := rx.get hx
  obtain ⟨v, hv, rv⟩ := ry.get hy
  have hT : s.TypeIs (.ref z) "zip" := ⟨_, hz, rfl⟩
  unfold pyNext
  refine wpAny_bind (wpAny_attempt (wpAny_callSpecial?_slot (name := Str.ofString "__next__") hT F.slot_zip_next
   (wpAny_call_entry F.slot_zip_next hT F.entry_zip_next
    (zaji D hz hTI hTO h1 h2 px py (x := u) (y := v) (by simpa using hu) (by simpa using hv) fun h' a1 a2 a3 a4 a5 a6 a7 => wpAny_pure ?_) (F.args_zip_next_1 _))))
  refine ⟨_, rfl, wpAny_letOwnedTupleGo_zip (s := { s with heap := h' }) a1 fun h'' b1 b2 => ?_⟩
  have zlt : z < s.heap.objs.size := Heap.lt_size hz
  have k2 : ∀ c o, c ∉ [z, TI, TO, i1, i2] → s.heap.get? c = some o → h''.get? c = some o := fun c o hc e => by
   simp only [List.mem_cons, List.not_mem_nil, or_false, not_or] at hc
   exact b2.extBut _ _ hc.1 (a7 c o hc.1 hc.2.2.1 hc.2.2.2.1 hc.2.2.2.2 e)
  have hT2 : IsPair h'' s.heap.objs.size u v := b2.extBut _ _ (Nat.ne_of_gt zlt) a5
  refine ⟨.ref s.heap.objs.size, upd H s.heap.objs.size (.tup [x, y]), I.turnedNew (t' := s.toks) (o := .tup [x, y]) k2 hf (Nat.le_refl _) ⟨by show 2 ≤ sizeLine; decide, [u, v], .cons ru (.cons rv .nil), ⟨_, hT2, rfl, _, rfl⟩⟩, rfl,
   ⟨_, I.hok.fresh (Nat.le_refl _), rfl, fun xs' ys' e1 e2 => ?_⟩, ⟨b1, ?_, ⟨_, _, b2.extBut _ _ D.TOz a2⟩, a3.at fun o e => b2.extBut _ _ D.i1z e, a4.at fun o e => b2.extBut _ _ D.i2z e⟩, fun b hb => ?_⟩
  ·rw [I.sq_inj e1 q1, I.sq_inj e2 q2]
   exact ⟨x, y, hx, hy, rfl⟩
  ·exact b2.extBut _ _ D.TIz (a7 _ _ D.TIz D.TITO D.TIi1 D.TIi2 hTI)
  ·have blt : b < s.heap.objs.size := by
    simp only [List.mem_cons, List.not_mem_nil, or_false] at hb
    rcases hb with rfl | rfl | rfl | rfl | rfl
    ·exact zlt
    ·exact Heap.lt_size hTI
    ·exact Heap.lt_size hTO
    ·obtain ⟨o, e, _⟩ := h1.obj; exact Heap.lt_size e
    ·obtain ⟨o, e, _⟩ := h2.obj; exact Heap.lt_size e
   rw [zaax (Nat.ne_of_lt blt)]
   exact (hf b hb).1
 done := by
  intro X hP hw hK hc i pins s σ H E I hf st hg
  subst hP hw hK
  obtain ⟨hz, hTI, ⟨c, d, hTO⟩, h1, h2⟩ := st
  obtain ⟨xs, ys, q1, q2, hl⟩ := hg
  obtain ⟨ix, rx, px⟩ := I.sis q1
  obtain ⟨iy, ry, py⟩ := I.sis q2
  have l1 := rx.length
  have l2 := ry.length
  have hend : ix.toArray[i]? = none ∨ iy.toArray[i]? = none := by
   rcases hl with h | h
   ·exact .inl (by simp; omega)
   ·exact .inr (by simp; omega)
  have hT : s.TypeIs (.ref z) "zip" := ⟨_, hz, rfl⟩
  unfold pyNext
  refine wpAny_bind (wpAny_attempt (wpAny_callSpecial?_slot (name := Str.ofString "__next__") hT F.slot_zip_next
   (wpAny_call_entry F.slot_zip_next hT F.entry_zip_next (zak8 (I.ok.hd hc) D hz hTI hTO h1 h2 px py hend fun h' e hk he => ?_) (F.args_zip_next_1 _))))
  obtain ⟨o, ho, hc'⟩ := he
  refine wpAny_bind (wpAny_isInstance (T := "StopIteration") (b := true) ⟨o, ho, hc'⟩ isSubtype_stop ?_)
  refine wpAny_pure ⟨rfl, I.turnedL (t' := s.toks) (its := [z, TI, TO, i1, i2]) (fun b o hb e => ?_) hf⟩
  simp only [List.mem_cons, List.not_mem_nil, or_false, not_or] at hb
  exact hk b o hb.1 hb.2.2.1 hb.2.2.2.1 hb.2.2.2.2 e
 self := fun _ _ _ _ _ st h => wpAny_pyIter_zip st.1 h
def itObj (k : SK) (l : Addr) : Obj := match k with
 | .list => { cls := .type "list_iterator", data := .fields #[.ref l, .int 0 0] }
 | .tuple => { cls := .type "tuple_iterator", data := .fields #[.ref l, .int 0 0] }
theorem zafi {k : SK} {l it : Addr} {h : Heap} (e : h.get? it = some (itObj k l)) : SIt k h it l 0 := by
 cases k with
 | list => exact ⟨_, e, rfl, rfl⟩
 | tuple => exact ⟨_, e, rfl, rfl⟩
abbrev zS1 (h : Heap) (k1 : SK) (l1 : Addr) : Heap := h.push (itObj k1 l1)
abbrev zS2 (h : Heap) (k1 k2 : SK) (l1 l2 : Addr) : Heap := (zS1 h k1 l1).push (itObj k2 l2)
abbrev zS3 (h : Heap) (k1 k2 : SK) (l1 l2 : Addr) : Heap := (zS2 h k1 k2 l1 l2).push { cls := .type "tuple", data := .seq #[.ref h.objs.size, .ref (zS1 h k1 l1).objs.size] }
abbrev zS4 (h : Heap) (k1 k2 : SK) (l1 l2 : Addr) : Heap := (zS3 h k1 k2 l1 l2).push { cls := .type "tuple", data := .seq #[.none, .none] }
abbrev zS5 (h : Heap) (k1 k2 : SK) (l1 l2 : Addr) : Heap := (zS4 h k1 k2 l1 l2).push { cls := .type "zip", data := .fields #[.none, .bool false, .bool false, .ref (zS2 h k1 k2 l1 l2).objs.size, .ref (zS3 h k1 k2 l1 l2).objs.size] }
set_option maxHeartbeats 4000000 in
theorem zae4 (k1 k2 : SK) (l1 l2 : Addr) (xs ys : Array Value) :
  Meets (Builtin.«zip.__new__» ⟨[.type "zip", .ref l1, .ref l2], []⟩) (fun _ R s => SIs k1 s.heap l1 xs ∧ SIs k2 s.heap l2 ys ∧
   R (.ok (.ret (.ref (zS4 s.heap k1 k2 l1 l2).objs.size))) { s with heap := zS5 s.heap k1 k2 l1 l2 }) := by
 cases k1 with
 | list =>
  cases k2 with
  | list =>
   exact .of_wp fun prog w A R s h => by
    obtain ⟨hp, g, d, tk, os⟩ := s; obtain ⟨hl1, hl2, h⟩ := h
    have hsub := sub_zip
    have hL1 : Heap.IsList (Shared.heap ⟨hp, g, d, tk, os⟩) l1 xs := hl1
    have hL2 : Heap.IsList (Shared.heap ⟨hp.push { cls := .type "list_iterator", data := .fields #[.ref l1, .int 0 0] }, g, d, tk, os⟩) l2 ys := Heap.IsList.push hl2 _
    wp_walk using wpAny_pyIter_list hL1, wpAny_pyIter_list hL2
    exact ⟨_, rfl, h⟩
  | tuple =>
   exact .of_wp fun prog w A R s h => by
    obtain ⟨hp, g, d, tk, os⟩ := s; obtain ⟨hl1, hl2, h⟩ := h
    have hsub := sub_zip
    have hL1 : Heap.IsList (Shared.heap ⟨hp, g, d, tk, os⟩) l1 xs := hl1
    have hL2 : Heap.IsTuple (Shared.heap ⟨hp.push { cls := .type "list_iterator", data := .fields #[.ref l1, .int 0 0] }, g, d, tk, os⟩) l2 ys := SIs.at (k := .tuple) hl2 fun o e => Heap.get?_push_of_some _ e
    wp_walk using wpAny_pyIter_list hL1, wpAny_pyIter_tuple hL2
    exact ⟨_, rfl, h⟩
 | tuple =>
  cases k2 with
  | list =>
   exact .of_wp fun prog w A R s h => by
    obtain ⟨hp, g, d, tk, os⟩ := s; obtain ⟨hl1, hl2, h⟩ := h
    have hsub := sub_zip
    have hL1 : Heap.IsTuple (Shared.heap ⟨hp, g, d, tk, os⟩) l1 xs := hl1
    have hL2 : Heap.IsList (Shared.heap ⟨hp.push { cls := .type "tuple_iterator", data := .fields #[.ref l1, .int 0 0] }, g, d, tk, os⟩) l2 ys := SIs.at (k := .list) hl2 fun o e => Heap.get?_push_of_some _ e
    wp_walk using wpAny_pyIter_tuple hL1, wpAny_pyIter_list hL2
    exact ⟨_, rfl, h⟩
  | tuple =>
   exact .of_wp fun prog w A R s h => by
    obtain ⟨hp, g, d, tk, os⟩ := s; obtain ⟨hl1, hl2, h⟩ := h
    have hsub := sub_zip
    have hL1 : Heap.IsTuple (Shared.heap ⟨hp, g, d, tk, os⟩) l1 xs := hl1
    have hL2 : Heap.IsTuple (Shared.heap ⟨hp.push { cls := .type "tuple_iterator", data := .fields #[.ref l1, .int 0 0] }, g, d, tk, os⟩) l2 ys := SIs.at (k := .tuple) hl2 fun o e => Heap.get?_push_of_some _ e
    wp_walk using wpAny_pyIter_tuple hL1, wpAny_pyIter_tuple hL2
    exact ⟨_, rfl, h⟩
section
variable {prog : Program} {w : World} {A : Around} {E : Value → Shared → Prop} {s : Shared}
theorem zajj {k1 k2 : SK} {l1 l2 : Addr} {xs ys : Array Value} {Q : Value → Shared → Prop} (hl1 : SIs k1 s.heap l1 xs) (hl2 : SIs k2 s.heap l2 ys)
  (h : ∀ h', IsZip h' (s.heap.objs.size + 4) (s.heap.objs.size + 2) (s.heap.objs.size + 3) .none → IsPair h' (s.heap.objs.size + 2) (.ref s.heap.objs.size) (.ref (s.heap.objs.size + 1)) →
   IsPair h' (s.heap.objs.size + 3) .none .none → SIt k1 h' s.heap.objs.size l1 0 → SIt k2 h' (s.heap.objs.size + 1) l2 0 →
   (∀ c o, s.heap.get? c = some o → h'.get? c = some o) → Q (.ref (s.heap.objs.size + 4)) { s with heap := h' }) :
  wpAny (model prog w) A (call (.type "zip") [.ref l1, .ref l2]) Q E s := by
 refine callType_new F.called_zip (by decide) (F.typeCall_zip_2 _ _) (F.newCall_zip_2 _ _) (fun obj => F.args_object_init_3 obj _ _) F.entry_zip_new
  (zae4 k1 k2 l1 l2 xs ys) ⟨hl1, hl2, ?_⟩
 have z1 : (zS1 s.heap k1 l1).objs.size = s.heap.objs.size + 1 := Heap.size_push ..
 have z2 : (zS2 s.heap k1 k2 l1 l2).objs.size = s.heap.objs.size + 2 := by rw [Heap.size_push, z1]
 have z3 : (zS3 s.heap k1 k2 l1 l2).objs.size = s.heap.objs.size + 3 := by rw [Heap.size_push, z2]
 have z4 : (zS4 s.heap k1 k2 l1 l2).objs.size = s.heap.objs.size + 4 := by rw [Heap.size_push, z3]
 have r1 : (itObj k1 l1).isFreed = false := by cases k1 <;> rfl
 have r2 : (itObj k2 l2).isFreed = false := by cases k2 <;> rfl
 have g5 : (zS5 s.heap k1 k2 l1 l2).get? (zS4 s.heap k1 k2 l1 l2).objs.size = some _ := Heap.get?_push_size _ rfl
 have g4 : (zS5 s.heap k1 k2 l1 l2).get? (zS3 s.heap k1 k2 l1 l2).objs.size = some _ := Heap.get?_push_of_some _ (Heap.get?_push_size _ rfl)
 have g3 : (zS5 s.heap k1 k2 l1 l2).get? (zS2 s.heap k1 k2 l1 l2).objs.size = some _ := Heap.get?_push_of_some _ (Heap.get?_push_of_some _ (Heap.get?_push_size _ rfl))
 have g2 : (zS5 s.heap k1 k2 l1 l2).get? (zS1 s.heap k1 l1).objs.size = some _ := Heap.get?_push_of_some _ (Heap.get?_push_of_some _ (Heap.get?_push_of_some _ (Heap.get?_push_size _ r2)))
 have g1 : (zS5 s.heap k1 k2 l1 l2).get? s.heap.objs.size = some _ := Heap.get?_push_of_some _ (Heap.get?_push_of_some _ (Heap.get?_push_of_some _ (Heap.get?_push_of_some _ (Heap.get?_push_size _ r1))))
 show _ ∧ _
 rw [z2, z3, z4] at g5
 rw [z1, z2] at g3
 rw [z3] at g4
 rw [z1] at g2
 rw [z4]
 exact ⟨⟨_, g5, rfl⟩, h _ g5 g3 g4 (zafi g1) (zafi g2) fun c o x =>
  Heap.get?_push_of_some _ (Heap.get?_push_of_some _ (Heap.get?_push_of_some _ (Heap.get?_push_of_some _ (Heap.get?_push_of_some _ x))))⟩
end
section
variable {X : Cx} {elts : List Expr} {kk : Nat} {tpos : Pos}
def iZip (K : PySem.W.Frag) (k1 k2 : SK) (ta : TA) : TI := fun σ H R => ta σ H fun vs H1 => ∃ a b, vs = [.ref a, .ref b] ∧ (∃ xs, Sq k1 K H1 a xs) ∧ (∃ ys, Sq k2 K H1 b ys) ∧ R (Itz K k1 k2 a b) H1
theorem zao2 (k1 k2 : SK) {a b : Expr} {ta : TA} {p pos : Pos} (hg : Gl X "zip") (hm : X.mg "zip" = none) (ha : PA X [a, b] ta) (hs : starEach [a, b] X.env = [(false, eval a X.env), (false, eval b X.env)] := by rfl) (hs2 : starEach [b] X.env = [(false, eval b X.env)] := by rfl) :
  PI X (.Tuple elts kk tpos) (.Call (.Name "zip" p) [a, b] [] pos) (iZip X.K k1 k2 ta) := by
 intro pins s σ H R I h
 refine Call_ (zaea I hg hm boot_zip (PyProof.Rows.callWith_type1 (thn (ha pos pins s σ H _ I h) fun us s1 ⟨vs, H1, I1, r1, q1⟩ => ?_) (by rw [hs, hs2]) (by rw [hs2]; rfl)))
 obtain ⟨a', b', e, ⟨xs, qx⟩, ⟨ys, qy⟩, q⟩ := q1
 subst e
 obtain ⟨u, v, rfl, ru, rv⟩ := vals2 r1
 cases ru
 cases rv
 obtain ⟨ix, rx, px⟩ := I1.sis qx
 obtain ⟨iy, ry, py⟩ := I1.sis qy
 refine zajj px py fun h' b1 b2 b3 b4 b5 b6 => wpAny_pyIter_zip (s := { s1 with heap := h' }) b1 ?_
 have nn : ∀ b, s1.heap.objs.size ≤ b → FpOk X pins H1 b := fun b hb => I1.fpOk hb (I1.hok.fresh hb)
 refine ⟨_, [s1.heap.objs.size + 4, s1.heap.objs.size + 2, s1.heap.objs.size + 3, s1.heap.objs.size, s1.heap.objs.size + 1], _, _, H1, rfl, I1.kept (t' := s1.toks) b6, zak9 (k1 := k1) (k2 := k2) (zipApart_new px.lt py.lt), ⟨b1, b2, ⟨_, _, b3⟩, b4, b5⟩, fun b hb => ?_, q⟩
 simp only [List.mem_cons, List.not_mem_nil, or_false] at hb
 rcases hb with rfl | rfl | rfl | rfl | rfl
 ·exact nn _ (Nat.le_add_right _ _)
 ·exact nn _ (Nat.le_add_right _ _)
 ·exact nn _ (Nat.le_add_right _ _)
 ·exact nn _ (Nat.le_refl _)
 ·exact nn _ (Nat.le_add_right _ _)
end
end L2

namespace L2
open PySem PySem.Spec PyProof.Rows PySem.Builtin PySem.Builtin.Str
section
variable {X : Cx}
def rSlS : V → Option Int → Option Int → Hp → VK → Prop := fun x lo hi H Q => ∃ z, x = .str z ∧ z.length ≤ sizeLine ∧ Q (.str (Txt.slice z lo hi)) H
def rMulS : R2 := fun x y H Q => ∃ c n, x = .str ⟨#[c]⟩ ∧ y = .int n ∧ 1 ≤ n ∧ n ≤ 1000 ∧ ∀ z : Str, z.cps.toList = List.replicate n.toNat c → Q (.str z) H
def rJoin (K : PySem.W.Frag) : V → List V → Hp → VK → Prop := fun x vs H Q => ∃ sep p ys, x = .str sep ∧ vs = [.ref p] ∧ SqL K H p (ys.map V.str) ∧ (ys.map (·.length)).sum + ys.length * sep.length ≤ 16777216 ∧ Q (.str (Str.join sep ys)) H
def rSplit : V → List V → Hp → VK → Prop := fun x vs H Q => ∃ z y, x = .str z ∧ vs = [.str y] ∧ y.length ≠ 0 ∧ z.length + 2 ≤ sizeLine ∧ ∀ p, H p = none → Q (.ref p) (upd H p (.lst ((Txt.split z y).map V.str)))
def rIsT (K : PySem.W.Frag) : List V → Hp → VK → Prop := fun xs H Q => ∃ x T t b, xs = [x, .ty T] ∧ TyOf K H x t ∧ PySem.W.kitOne K t (.type T) = some b ∧ Q (.bl b) H
theorem zaaw : CallR X (.builtin "isinstance") (rIsT X.K) := by
 intro pins s σ H xs us Q I r h
 obtain ⟨x, T, t, b, rfl, ty, e, q⟩ := h
 obtain ⟨u, v, rfl, ru, rv⟩ := vals2 r
 cases rv
 exact zai9 I ru ty e fun tk => ⟨.bl b, H, I.tok _, rfl, q⟩
example (K : PySem.W.Frag) : PySem.W.kitOne K (.type "int") (.type "int") = some true := rfl
example (K : PySem.W.Frag) : PySem.W.kitOne K (.type "str") (.type "int") = some false := rfl
example (K : PySem.W.Frag) : PySem.W.kitOne K (.type "tuple") (.type "int") = some false := rfl
example (K : PySem.W.Frag) : PySem.W.kitOne K (.type "bool") (.type "int") = some true := rfl
end
end L2

namespace L2
open PySem PySem.Spec PyProof.Rows
def ent (w : World) (x : Str × Tok × Value) : DictEntry := ⟨hashStr w x.1, .str x.1 x.2.1, x.2.2⟩
structure KD (P : Program) (w : World) (K : PySem.W.Frag) (a : Addr) (kvs : List (Key × V)) : Prop where
 ex : ∃ (o : Obj) (es : Array DictEntry) (ep : Nat) (vs : List (Key × Value)), K.lookup a = some o ∧ o.ExactDict ∧ o.data = .dict es ep ∧ KeysOf (mixKind P w) es ∧ Pairs (mixKind P w) es.toList vs ∧ (vs.map (·.1)).Nodup ∧ KV kvs vs
 ns : (a == sysModules) = false
def DK (P : Program) (w : World) (K : PySem.W.Frag) (H : Hp) (a : Addr) (kvs : List (Key × V)) : Prop := Rd H a (.dK kvs) ∨ KD P w K a kvs
theorem Inv.dict {X : Cx} {pins : List (Addr × Obj)} {σ : St} {H : Hp} {s : Shared} {a : Addr} {kvs : List (Key × V)} (I : Inv X pins σ H s) (h : DK X.prog X.w X.K H a kvs) :
  (a == sysModules) = false ∧ ∃ vs, KV kvs vs ∧ s.heap.DictOf (mixKind X.prog X.w) a vs := by
 rcases h with h | h
 ·obtain ⟨_, b, c⟩ := zak1 I.hok h
  exact ⟨b, c⟩
 ·obtain ⟨o, es, ep, vs, h1, h2, h3, h4, h5, h6, h7⟩ := h.ex
  exact ⟨h.ns, vs, h7, o, es, ep, I.kIn a o h1, h2, h3, h4, h5, h6⟩
theorem zagz {P : Program} {w : World} {s : Shared} {a : Addr} {vs : List (Key × Value)} (d : s.heap.DictOf (mixKind P w) a vs) : s.TypeIs (.ref a) "dict" := by
 obtain ⟨o, es, ep, h1, h2, _⟩ := d
 exact ⟨o, h1, h2.1⟩
section
variable {X : Cx}
def rIxD (X : Cx) : R2 := fun x y H Q => ∃ a kvs k v, x = .ref a ∧ y = kV k ∧ DK X.prog X.w X.K H a kvs ∧ valV kvs k = some v ∧ Q v H
theorem zao3 {o i : Expr} {td ty : TE} {pos : Pos} (ho : PE X o td) (hi : PE X i ty) (hs : NoSl i) : PE X (.Subscript o i pos) (tOp (rIxD X) td ty) := by
 intro pins s σ H Q I h
 refine zamz PySem.F.slot_dict_getitem.lookup hs (thn (ho pins s σ H _ I h) fun u s1 ⟨x, H1, I1, rx, q1⟩ => thn (hi pins s1 σ H1 _ I1 q1) fun iv s2 ⟨y, H2, I2, ry, q2⟩ => ?_)
 obtain ⟨a, kvs, k, v, rfl, rfl, dk, hv, q⟩ := q2
 obtain rfl : u = Value.ref a := rx
 obtain ⟨_, vs, rel, dd⟩ := I2.dict dk
 obtain ⟨w', hw, rw'⟩ := RelO.some_of (v := v) (o := valueAt vs k) (by rw [← hv]; exact rel.val k)
 exact ⟨zagz dd, wpAny_getItem_of (zajh ry) dd.mapOf hw ⟨v, H2, I2.tok _, rw', q⟩⟩
def rInD (X : Cx) (neg : Bool) : R2 := fun x y H Q => ∃ a kvs k, y = .ref a ∧ x = kV k ∧ DK X.prog X.w X.K H a kvs ∧ Q (.bl (if neg then !(valV kvs k).isSome else (valV kvs k).isSome)) H
theorem zafj : OpR X (compareOp .NotIn) (rInD X true) := by
 intro pins s σ H x y v u Q I rx ry h
 obtain ⟨a, kvs, k, rfl, rfl, dk, q⟩ := h
 obtain rfl : u = Value.ref a := ry
 obtain ⟨hd, vs, rel, dd⟩ := I.dict dk
 refine wpAny_notIn_of (zajh rx) hd dd.mapOf ?_
 rw [← (rel.val k).isSome_eq]
 exact ⟨.bl (!(valV kvs k).isSome), H, I.tok _, rfl, q⟩
end
theorem zap0 {P : Program} {w : World} {K : PySem.W.Frag} {a : Addr} {od : Option Addr} {ep : Nat} {sl : Array (Option Value)} {es : Array DictEntry} (xs : List (Str × Tok × Value)) (vs : List V)
  (l : K.lookup a = some ⟨.type "dict", od, .dict es ep, sl⟩) (he : es.toList = xs.map (ent w)) (hx : (⟨.type "dict", od, .dict es ep, sl⟩ : Obj).ExactDict) (ns : (a == sysModules) = false)
  (nd : (xs.map (·.1)).Nodup) (hv : Vals vs (xs.map (·.2.2))) : KD P w K a ((xs.map fun x => (Sum.inr x.1 : Key)).zip vs) := by
 refine ⟨⟨_, es, ep, xs.map fun x => (Sum.inr x.1, x.2.2), l, hx, rfl, ?_, ?_, ?_, ?_⟩, ns⟩
 ·intro e h
  rw [← Array.mem_toList_iff, he] at h
  obtain ⟨x, hx, rfl⟩ := List.mem_map.mp h
  exact ⟨Sum.inr x.1, zaef x.1 x.2.1, rfl⟩
 ·rw [he]
  clear he nd hv l hx
  induction xs with
  | nil => exact .nil
  | cons x xs ih => exact .cons (zaef x.1 x.2.1) rfl ih
 ·rw [List.map_map]
  have e : (xs.map (fun x => (Sum.inr x.1 : Key))) = (xs.map (·.1)).map Sum.inr := by rw [List.map_map]; rfl
  show (xs.map (fun x => (Sum.inr x.1 : Key))).Nodup
  rw [e]
  exact List.Pairwise.map _ (fun a b h z => h (Sum.inr.inj z)) nd
 ·clear he nd l hx
  induction xs generalizing vs with
  | nil => cases hv; exact .nil
  | cons x xs ih =>
   cases hv with
   | cons r rr => exact .cons ⟨rfl, r⟩ (ih _ rr)
end L2

namespace L2
open PySem PySem.Spec PyProof.Rows
structure Pr (p : Prop) : Prop where
 h : p
section
variable {X : Cx}
theorem zajk {i : Nat} {x : Str} {pos : Pos} (hN : X.N[i]? = some x) (hv : Vis X.env.scope x) (hd : (x == ("__debug__" : Str)) = false := by decide) (hcd : (x == ("__classdict__" : Str)) = false := by decide) : Pr (PE X (.Name x pos) (tVar i)) := ⟨zan4 hN hv hd hcd⟩
theorem zaad {i j pos} : Pr (PE X (.Constant (.int i) j pos) (tC (.int i))) := ⟨zan5⟩
theorem zabt {b j pos} : Pr (PE X (.Constant (.bool b) j pos) (tC (.bl b))) := ⟨zapq⟩
theorem zab4 {j pos} : Pr (PE X (.Constant .none j pos) (tC .non)) := ⟨zan6⟩
theorem zaas {x j pos} : Pr (PE X (.Constant (.str x) j pos) (tC (.str x))) := ⟨zan7⟩
theorem zaby {x : Str} {v : V} {u : Value} {pos : Pos} (hg : Gl X x) (hm : X.mg x = some u) (r : RelV v u) (hd : (x == ("__debug__" : Str)) = false := by decide) : Pr (PE X (.Name x pos) (tC v)) := ⟨zaix hg hm r hd⟩
theorem zaav {x : Str} {v : V} {u : Value} {pos : Pos} (hg : Gl X x) (hm : X.mg x = none) (hv : bootBuiltins x = some u) (r : RelV v u) (hn : x ≠ "__name__" := by decide) (hd : (x == ("__debug__" : Str)) = false := by decide) : Pr (PE X (.Name x pos) (tC v)) := ⟨zamd hg hm hv r hn hd⟩
end
section
variable {X : Cx} {a b c : Expr} {ta tb tc : TE} {pos : Pos}
theorem zaao {op : Operator} {r : R2} (ho : OpR X (binaryOp op) r) (ha : Pr (PE X a ta)) (hb : Pr (PE X b tb)) : Pr (PE X (.BinOp a op b pos) (tOp r ta tb)) := ⟨zapt ho ha.h hb.h⟩
theorem zadl {op : UnaryOp} {r : V → Hp → VK → Prop} (ho : UnR X (unaryOp op) r) (ha : Pr (PE X a ta)) : Pr (PE X (.UnaryOp op a pos) (tUn r ta)) := ⟨zapu ho ha.h⟩
theorem zabz {op : CmpOp} {r : R2} (ho : OpR X (compareOp op) r) (ha : Pr (PE X a ta)) (hb : Pr (PE X b tb)) (hm : behindInMarks op b = false) : Pr (PE X (.Compare a [op] [b] pos) (tOp r ta tb)) := ⟨zaml ho ha.h hb.h hm⟩
theorem zajl {op op' : CmpOp} {r r' : R2} (ho : OpR X (compareOp op) r) (ho' : OpR X (compareOp op') r') (ha : Pr (PE X a ta)) (hb : Pr (PE X b tb)) (hc : Pr (PE X c tc)) (hm : lastMarks [op, op'] [b, c] = false := by with_unfolding_all rfl) : Pr (PE X (.Compare a [op, op'] [b, c] pos) (tChain r r' ta tb tc)) := ⟨zaku ho ho' ha.h hb.h hc.h hm⟩
end
section
variable {X : Cx}
variable {a b : Expr} {ta tb : TE} {pos : Pos}
variable {tA tB' : TT} {rest : List Expr}
theorem zab0 (ha : Pr (PE X a ta)) (hb : Pr (PE X (.BoolOp .And (b :: rest) pos) tb)) : Pr (PE X (.BoolOp .And (a :: b :: rest) pos) (tAndV ta tb)) := ⟨zaod ha.h hb.h⟩
end
section
variable {X : Cx}
variable {a b : Expr} {ta tb : TE} {pos : Pos}
variable {tA tB' : TT} {rest : List Expr}
end
section
variable {X : Cx}
variable {a b : Expr} {ta tb : TE} {pos : Pos}
variable {tA tB' : TT} {rest : List Expr}
theorem zacl {op} {t : TE} (h : Pr (PE X a t)) : Pr (PE X (.BoolOp op [a] pos) t) := ⟨zaoc h.h⟩
end
section
variable {X : Cx}
variable {a b : Expr} {ta tb : TE} {pos : Pos}
variable {tA tB' : TT} {rest : List Expr}
theorem zafk (ha : Pr (PE X a ta)) : Pr (PE X (.UnaryOp .Not a pos) (tNotV ta)) := ⟨zaoe ha.h⟩
end
section
variable {X : Cx}
variable {a b : Expr} {ta tb : TE} {pos : Pos}
variable {tA tB' : TT} {rest : List Expr}
theorem zaeo {c : Expr} (hc : Pr (PT X c tA)) (ha : Pr (PE X a ta)) (hb : Pr (PE X b tb)) : Pr (PE X (.IfExp c a b pos) (tIf tA ta tb)) := ⟨zakq hc.h ha.h hb.h⟩
end
section
variable {X : Cx} {e : Expr} {es : List Expr} {te : TE} {t : TA} {pos : Pos}
theorem zaa9 {x1} (h : Pr (PA X es t)) : Pr (PE X (.Tuple es x1 pos) (tTup t)) := ⟨zaoo h.h⟩
theorem zabd (h : Pr (PA X es t)) : Pr (PE X (.List es pos) (tLst t)) := ⟨zaop h.h⟩
end
section
variable {X : Cx} {e : Expr} {te : TE} {lo hi : Option Expr} {tl th : TO} {pos p2 : Pos}
theorem zabc {r : V → Option Int → Option Int → Hp → VK → Prop} (hr : SlR X r) (he : Pr (PE X e te)) (hl : Pr (PO X lo tl)) (hu : Pr (PO X hi th)) : Pr (PE X (.Subscript e (.Slice lo hi none p2) pos) (tSl r te tl th)) := ⟨zaky hr he.h hl.h hu.h⟩
end
section
variable {X : Cx} {a b : Expr} {ta tb : TE} {pos : Pos}
theorem zaaz {r : R2} (hr : IxR X r) (ha : Pr (PE X a ta)) (hb : Pr (PE X b tb)) (hs : PlainIx b) : Pr (PE X (.Subscript a b pos) (tOp r ta tb)) := ⟨zapw hr ha.h hb.h hs⟩
end
section
variable {X : Cx}
theorem zam5 {o i : Expr} {td ty : TE} {pos : Pos} (ho : Pr (PE X o td)) (hi : Pr (PE X i ty)) (hs : NoSl i) : Pr (PE X (.Subscript o i pos) (tOp (rIxD X) td ty)) := ⟨zao3 ho.h hi.h hs⟩
end
section
variable {X : Cx} {o e value : Expr} {f : Str} {pos pos' tpos : Pos} {ta tv : TE}
theorem zadg (he : Pr (PE X e ta)) (hb : attributeBase e f X.env (eval e X.env) = eval e X.env) : Pr (PE X (.Attribute e f pos) (tFld X.K ta f)) := ⟨zaol he.h hb⟩
end
section
variable {X : Cx} {CX : CXT} {k : Nat} {ps : List Str} {sp : Sp} {E : XK} {x : Str} {p pos : Pos} {e : Expr} {es : List Expr} {t : TA}
theorem zaap (D : DefOk X.prog X.w X.K X.mg X.base CX k x ps sp) (hr : Room k X.A) (hg : Gl X x) (hx : Passes CX X E) (ha : Pr (PA X (e :: es) t)) (hdb : (x == ("__debug__" : Str)) = false := by decide) (he : starEach (e :: es) X.env = (false, eval e X.env) :: starEach es X.env := by rfl) (hpl : (backTo pos (starEach es X.env)).any (·.1) = false := by rfl) : Pr (PE X (.Call (.Name x p) (e :: es) [] pos) (tCall sp [] E t)) := ⟨zak5 D hr hg hx ha.h hdb he hpl⟩
end
section
variable {X : Cx} {x : Str} {p pos : Pos} {e : Expr} {es : List Expr} {t : TA} {id T : String} {r : List V → Hp → VK → Prop}
theorem zaac (hc : CallR X (.builtin id) r) (hg : Gl X x) (hm : X.mg x = none) (hv : bootBuiltins x = some (.builtin id)) (ha : Pr (PA X (e :: es) t)) (hn : x ≠ "__name__" := by decide) (hdb : (x == ("__debug__" : Str)) = false := by decide) (he : starEach (e :: es) X.env = (false, eval e X.env) :: starEach es X.env := by rfl) (hpl : (backTo pos (starEach es X.env)).any (·.1) = false := by rfl) : Pr (PE X (.Call (.Name x p) (e :: es) [] pos) (tCB r t)) := ⟨zakw hc hg hm hv ha.h hn hdb he hpl⟩
theorem zabo (hc : CallR X (.type T) r) (hg : Gl X x) (hm : X.mg x = none) (hv : bootBuiltins x = some (.type T)) (ha : Pr (PA X (e :: es) t)) (hn : x ≠ "__name__" := by decide) (hdb : (x == ("__debug__" : Str)) = false := by decide) (he : starEach (e :: es) X.env = (false, eval e X.env) :: starEach es X.env := by rfl) (hpl : (backTo pos (starEach es X.env)).any (·.1) = false := by rfl) : Pr (PE X (.Call (.Name x p) (e :: es) [] pos) (tCB r t)) := ⟨zaja hc hg hm hv ha.h hn hdb he hpl⟩
end
section
variable {X : Cx} {a b : Expr} {ta tb : TE} {pos : Pos}
variable {o e : Expr} {es : List Expr} {to : TE} {t : TA} {name : Str} {apos cpos : Pos} {T id : String} {r : V → List V → Hp → VK → Prop}
theorem zaec (pa : PlainAttrs T) (slot : Slot T name id) (hty : typeOf (.builtin id) = pure (.type "method_descriptor")) (hm : MtR X id r) (ho : Pr (PE X o to)) (ha : Pr (PA X (e :: es) t)) (hbase : attributeBase o name X.env (eval o X.env) = eval o X.env := by rfl) (hfew : ((backTo cpos (starEach (e :: es) X.env)).all (fun x => !x.1) && (backToKw cpos (keywordEach [] X.env)).all (fun x => x.1.isSome)
   && decide ((e :: es).length + ([] : List Keyword).length + (if ([] : List Keyword).isEmpty then 0 else 1) < 30)) = true := by rfl) (hline : (apos.endLine == cpos.line) = true := by rfl) (hs : starEach (e :: es) X.env = (false, eval e X.env) :: starEach es X.env := by rfl) (hplain : (backTo cpos (starEach es X.env)).any (·.1) = false := by rfl) : Pr (PE X (.Call (.Attribute o name apos) (e :: es) [] cpos) (tBM X.K T r to t)) := ⟨zapx pa slot hty hm ho.h ha.h hbase hfew hline hs hplain⟩
end
section
variable {X : Cx} {a b c : Expr} {ta tb tc : TE} {pos : Pos}
theorem zaau {op : CmpOp} {r : R2} (ho : OpR X (compareOp op) r) (ha : Pr (PE X a ta)) (hb : Pr (PE X b tb)) (hm : behindInMarks op b = false) : Pr (PT X (.Compare a [op] [b] pos) (tTest (tOp r ta tb))) := ⟨zamm ho ha.h hb.h hm⟩
end
section
variable {X : Cx}
variable {a b : Expr} {ta tb : TE} {pos : Pos}
variable {tA tB' : TT} {rest : List Expr}
theorem zabq (ha : Pr (PT X a tA)) : Pr (PT X (.UnaryOp .Not a pos) (tNot tA)) := ⟨zaob ha.h⟩
end
section
variable {X : Cx}
variable {a b : Expr} {ta tb : TE} {pos : Pos}
theorem zaa7 {e : Expr} {t : TE} (h : Pr (PE X e t)) (he : ∀ whole, isTrue e X.env whole = (do let v ← whole; standAt e.pos; holding [v] (truthy v)) := by intro _; rfl) : Pr (PT X e (tB t)) := ⟨zan8 h.h he⟩
end
section
theorem zaca {X : Cx} {e : Expr} {t : TT} (h : Pr (PW X e t)) : Pr (PT X e t) := ⟨PW.pt h.h⟩
end
section
variable {X : Cx}
variable {a b : Expr} {ta tb : TE} {pos : Pos}
variable {tA tB' : TT} {rest : List Expr}
theorem zajm (ha : Pr (PT X a tA)) (hb : Pr (PW X (.BoolOp .And (b :: rest) pos) tB')) : Pr (PW X (.BoolOp .And (a :: b :: rest) pos) (tAnd tA tB')) := ⟨zaoa ha.h hb.h⟩
end
section
variable {X : Cx}
variable {a b : Expr} {ta tb : TE} {pos : Pos}
variable {tA tB' : TT} {rest : List Expr}
theorem zahy (ha : Pr (PT X a tA)) : Pr (PW X (.BoolOp .And [a] pos) tA) := ⟨zame ha.h⟩
end
section
variable {X : Cx}
variable {a b : Expr} {ta tb : TE} {pos : Pos}
variable {tA tB' : TT} {rest : List Expr}
theorem zacj (ha : Pr (PT X a tA)) (hb : Pr (PW X (.BoolOp .Or (b :: rest) pos) tB')) : Pr (PW X (.BoolOp .Or (a :: b :: rest) pos) (tOr tA tB')) := ⟨zapr ha.h hb.h⟩
end
section
variable {X : Cx}
variable {a b : Expr} {ta tb : TE} {pos : Pos}
variable {tA tB' : TT} {rest : List Expr}
theorem zab1 (ha : Pr (PT X a tA)) : Pr (PW X (.BoolOp .Or [a] pos) tA) := ⟨zan9 ha.h⟩
end
section
variable {X : Cx} {e : Expr} {es : List Expr} {te : TE} {t : TA} {pos : Pos}
theorem zaab  : Pr (PA X [] tNil) := ⟨zaon⟩
theorem zaaa (ha : Pr (PE X e te)) (hr : Pr (PA X es t)) (hs : starEach (e :: es) X.env = (false, eval e X.env) :: starEach es X.env := by rfl) : Pr (PA X (e :: es) (tCons te t)) := ⟨zamp ha.h hr.h hs⟩
end
section
variable {X : Cx} {e : Expr} {te : TE} {lo hi : Option Expr} {tl th : TO} {pos p2 : Pos}
theorem zabh  : Pr (PO X none tNoPart) := ⟨zams⟩
theorem zabi (h : Pr (PE X e te)) : Pr (PO X (some e) (tPart te)) := ⟨zamt h.h⟩
end
section
variable {X : Cx} {tg : Expr}
theorem zafl {l : Expr} {tl : TE} (hl : Pr (PE X l tl)) : Pr (PI X tg l (iList X.K tl)) := ⟨zaiz hl.h⟩
theorem zag0 {l : Expr} {tl : TE} (hl : Pr (PE X l tl)) : Pr (PI X tg l (iTup X.K tl)) := ⟨zal1 hl.h⟩
theorem zacr {a : Expr} {ta : TA} {p pos : Pos} (hg : Gl X "range") (hm : X.mg "range" = none) (ha : Pr (PA X [a] ta)) (hs : starEach [a] X.env = [(false, eval a X.env)] := by rfl) : Pr (PI X tg (.Call (.Name "range" p) [a] [] pos) (iRng1 ta)) := ⟨zai0 hg hm ha.h hs⟩
theorem zail {a b : Expr} {ta : TA} {p pos : Pos} (hg : Gl X "range") (hm : X.mg "range" = none) (ha : Pr (PA X [a, b] ta)) (hs : starEach [a, b] X.env = [(false, eval a X.env), (false, eval b X.env)] := by rfl) (hs2 : starEach [b] X.env = [(false, eval b X.env)] := by rfl) : Pr (PI X tg (.Call (.Name "range" p) [a, b] [] pos) (iRng2 ta)) := ⟨zai1 hg hm ha.h hs hs2⟩
end
section
variable {X : Cx} {elts : List Expr} {kk : Nat} {tpos : Pos}
theorem zag1 (k1 k2 : SK) {a b : Expr} {ta : TA} {p pos : Pos} (hg : Gl X "zip") (hm : X.mg "zip" = none) (ha : Pr (PA X [a, b] ta)) (hs : starEach [a, b] X.env = [(false, eval a X.env), (false, eval b X.env)] := by rfl) (hs2 : starEach [b] X.env = [(false, eval b X.env)] := by rfl) : Pr (PI X (.Tuple elts kk tpos) (.Call (.Name "zip" p) [a, b] [] pos) (iZip X.K k1 k2 ta)) := ⟨zao2 k1 k2 hg hm ha.h hs hs2⟩
end
section
variable {X : Cx} {pos : Pos}
theorem zaay {i : Nat} {x : Str} (hN : X.N.Nodup) (hi : X.N[i]? = some x) (hx : Loc X.env.scope x) (hf : X.fn x = true ∨ X.env.scope.names.lookup x = some .local := by first | exact .inl rfl | exact .inr rfl | assumption) : Pr (PG X (.Name x pos) (gName i)) := ⟨zami hN hi hx hf⟩
theorem zacf  : Pr (PGs X [] gNil) := ⟨zamj⟩
theorem zaa8 {e : Expr} {es : List Expr} {t : TG} {u : TGs} (h1 : Pr (PG X e t)) (h2 : Pr (PGs X es u)) (hs : (assignEach (e :: es) X.env).map (·.2) = assign e X.env :: (assignEach es X.env).map (·.2) := by rfl) : Pr (PGs X (e :: es) (gCons t u)) := ⟨zakr h1.h h2.h hs⟩
theorem zag2 {es : List Expr} {k : Nat} {t : TGs} {n : Nat} (hc : X.calm = true) (h : Pr (PGs X es t)) (hn : (assignEach es X.env).length = n := by rfl) (hst : (assignEach es X.env).findIdx? (·.1) = none := by rfl) : Pr (PG X (.Tuple es k pos) (gTup X.K n t)) := ⟨zal0 hc h.h hn hst⟩
theorem zag3 {o i : Expr} {to ti : TE} {t : TSet} (ho : Pr (PE X o to)) (hi : Pr (PE X i ti)) (hs : PSet X t) (ha : ∀ v, assign (.Subscript o i pos) X.env v = (do
   let ov ← holding [v] (eval o X.env)
   let iv ← holding [v, ov] (eval i X.env)
   standAt pos
   holding [v, ov, iv] (setItem ov iv v)
   release [v, ov, iv] []) := by intro _; rfl) : Pr (PG X (.Subscript o i pos) (gSub to ti t)) := ⟨zaog ho.h hi.h hs ha⟩
end
section
variable {X : Cx} {st : Stmt} {rest : List Stmt} {t u : TS} {e : Expr} {te : TE} {pos : Pos}
theorem zaat (he : Pr (PE X e te)) : Pr (PS X (.Return (some e) pos) (tRet te)) := ⟨zaof he.h⟩
end
section
variable {X : Cx} {pos : Pos}
theorem zaa0 {i : Nat} {x : Str} {e : Expr} {te : TE} {pos' : Pos} (hN : X.N.Nodup) (hi : X.N[i]? = some x) (hx : Loc X.env.scope x) (he : Pr (PE X e te)) (hs : swapsWith e (some (.Name x pos')) pos.line X.env = pure false := by rfl) (hf : X.fn x = true ∨ X.env.scope.names.lookup x = some .local := by first | exact .inl rfl | exact .inr rfl | assumption) : Pr (PS X (.Assign [.Name x pos'] e pos) (tAsg te (gName i))) := ⟨zaoi hN hi hx he.h hs hf⟩
theorem zafm {tg e : Expr} {te : TE} {g : TG} (he : Pr (PE X e te)) (hg : Pr (PG X tg g)) (hs : swapsWithSole [tg] e pos.line X.env = pure false := by rfl) (hw : swappedStores [tg] e X.env = pure none := by rfl) (h1 : (assignEach [tg] X.env).map (·.2) = [assign tg X.env] := by rfl) : Pr (PS X (.Assign [tg] e pos) (tAsg te g)) := ⟨zaoh he.h hg.h hs hw h1⟩
end
section
variable {X : Cx} {st : Stmt} {rest : List Stmt} {t u : TS} {e : Expr} {te : TE} {pos : Pos}
theorem zaa2 {c : Expr} {a b : List Stmt} {tc : TT} (hc : Pr (PT X c tc)) (ha : Pr (PSs X a t)) (hb : Pr (PSs X b u)) : Pr (PS X (.If c a b pos) (tIfS tc t u)) := ⟨zaps hc.h ha.h hb.h⟩
end
section
theorem zab5 {X : Cx} {tg iter : Expr} {body : List Stmt} {wi : TI} {g : TG} {tb : TS} {pos : Pos} (hp : PassesOwn (model X.prog X.w) X.A X.env X.xe) (hc : X.calm = true) (hi : Pr (PI X tg iter wi)) (hg : Pr (PG X tg g)) (hb : Pr (PSs X body tb)) (hs : ∀ x, foldedSetIterable iter X.env x = pure x := by intro _; rfl) : Pr (PS X (.For tg iter body [] pos) (tLoop wi g tb)) := ⟨zam2 hp hc hi.h hg.h hb.h hs⟩
end
section
variable {X : Cx} {pos : Pos}
end
section
variable {X : Cx} {st : Stmt} {rest : List Stmt} {t u : TS} {e : Expr} {te : TE} {pos : Pos}
theorem zaco (he : Pr (PE X e te)) (hs : swapsWith e none pos.line X.env = pure false := by rfl) : Pr (PS X (.Expr e pos) (tDrop te)) := ⟨zamh he.h hs⟩
theorem zaar  : Pr (PSs X [] tNext) := ⟨zamf⟩
theorem zaam (h1 : Pr (PS X st t)) : Pr (PSs X [st] t) := ⟨zamg h1.h⟩
theorem zaaj (h1 : Pr (PS X st t)) (h2 : Pr (PSs X rest u)) : Pr (PSs X (st :: rest) (tSeq t u)) := ⟨zahq h1.h h2.h⟩
end
section
theorem zab6 {X : Cx} {st : Stmt} {rest : List Stmt} {t u : TS} (h1 : Pr (PS X st t)) (h2 : Pr (PSs X rest u)) : Pr (PSs X (st :: rest) (tCut t u)) := ⟨zam3 h1.h h2.h⟩
end
section
variable {X : Cx} {st : Stmt} {rest : List Stmt} {t u : TS} {e : Expr} {te : TE} {pos : Pos}
end
section
variable {X : Cx} {o e value : Expr} {f : Str} {pos pos' tpos : Pos} {ta tv : TE}
theorem zajn (ha : Pr (PE X o ta)) (hv : Pr (PE X value tv)) (hs : swapsWith value (some (.Attribute o f pos')) pos.line X.env = pure false) : Pr (PS X (.Assign [.Attribute o f pos'] value pos) (sFld X.K ta tv f)) := ⟨zaom ha.h hv.h hs⟩
end
end L2

namespace L2
open PySem PySem.Spec PyProof.Rows
def relab (sc outer : Scope) : Scope :=
 { sc with names := sc.names.map fun (n, k) => if (k == .free && outer.kind == .function && outer.names.lookup n == some .cell) then (n, .cell) else (n, k) }
structure CompOk (sc outer : Scope) (own : List Str) (N : List Str) (fr : List Nat) (N' : List Str) : Prop where
 kind : sc.kind = .function
 nocell : ∀ y ∈ sc.names, y.2 ≠ .cell
 loc : ∀ y ∈ sc.names, y.2 = .local → sc.names.lookup y.1 = some .local
 fre : ∀ y ∈ sc.names, y.2 = .free → outer.names.lookup y.1 = some .cell ∨ outer.names.lookup y.1 = some .free
 nd : N'.Nodup
 all : N'.map some = own.map some ++ fr.map fun j => N[j]?
 frk : ∀ j ∈ fr, ∀ x, N[j]? = some x → sc.names.lookup x = some .free ∧ (outer.names.lookup x = some .cell ∨ outer.names.lookup x = some .free)
def cst (n : Nat) (fr : List Nat) (σ : St) : St := List.replicate n none ++ fr.map fun j => (σ[j]?).join
theorem zadh {env : Env} {sc : Scope} (h : ∀ y ∈ sc.names, y.2 = .free → ∃ c, env.cells.lookup y.1 = some c) :
  ∃ cl, closureFor sc env = pure cl ∧ (∀ x c, cl.lookup x = some c → env.cells.lookup x = some c) ∧ ∀ y ∈ sc.names, y.2 = .free → ∃ c, cl.lookup y.1 = some c := by
 have key : ∀ (l : List (Str × NameKind)) (cs : List (Str × Addr)), (∀ y ∈ l, y.2 = .free → ∃ c, env.cells.lookup y.1 = some c) → (∀ x c, cs.lookup x = some c → env.cells.lookup x = some c) →
   ∃ cl, (forIn l cs fun x r => if (x.2 == NameKind.free) = true then do let a ← cellOf env x.1; pure (ForInStep.yield ((x.1, a) :: r)) else pure (ForInStep.yield r)) = (pure cl : Sem _) ∧ (∀ x c, cl.lookup x = some c → env.cells.lookup x = some c) ∧
    (∀ x, (∃ c, cs.lookup x = some c) → ∃ c, cl.lookup x = some c) ∧ ∀ y ∈ l, y.2 = .free → ∃ c, cl.lookup y.1 = some c := by
  intro l
  induction l with
  | nil => intro cs _ h2; exact ⟨cs, rfl, h2, fun _ z => z, fun y hy => nomatch hy⟩
  | cons y l ih =>
   intro cs h1 h2
   obtain ⟨n, k⟩ := y
   by_cases hk : k = .free
   ·subst hk
    obtain ⟨c, hc⟩ := h1 (n, .free) List.mem_cons_self rfl
    obtain ⟨cl, e, a, b, d⟩ := ih ((n, c) :: cs) (fun y hy => h1 y (List.mem_cons_of_mem _ hy)) (fun x c' hx => by
     rw [List.lookup_cons] at hx
     split at hx
     ·rename_i q
      have : x = n := by simpa using q
      cases hx; subst this; exact hc
     ·exact h2 x c' hx)
    refine ⟨cl, ?_, a, fun x ⟨c', hx⟩ => b x ?_, fun y hy hf => ?_⟩
    ·rw [List.forIn_cons]
     have e1 : cellOf env n = pure c := by unfold cellOf; rw [hc]
     simp only [beq_self_eq_true, if_true, e1, pure_bind]
     exact e
    ·rw [List.lookup_cons]
     split
     ·exact ⟨_, rfl⟩
     ·exact ⟨c', hx⟩
    ·rcases List.mem_cons.mp hy with rfl | hy
     ·exact b n ⟨c, by simp [List.lookup_cons]⟩
     ·exact d y hy hf
   ·obtain ⟨cl, e, a, b, d⟩ := ih cs (fun y hy => h1 y (List.mem_cons_of_mem _ hy)) h2
    refine ⟨cl, ?_, a, b, fun y hy hf => ?_⟩
    ·rw [List.forIn_cons]
     have hb : (k == NameKind.free) = false := by simpa using hk
     simp only [hb, Bool.false_eq_true, if_false, pure_bind]
     exact e
    ·rcases List.mem_cons.mp hy with rfl | hy
     ·exact absurd hf hk
     ·exact d y hy hf
 obtain ⟨cl, e, a, _, d⟩ := key sc.names [] h (fun x c hx => by simp at hx)
 refine ⟨cl, ?_, a, d⟩
 unfold closureFor
 simp only [e, pure_bind]
def cxC (X : Cx) (sc : Scope) (cl : List (Str × Addr)) (N' : List Str) (C : Addr) (s : Shared) (H : Hp) (fp : List Addr) : Cx :=
 { X with N := N', s₀ := s, H₀ := H, env := compEnvC sc cl C X.env, outer := X.stack, stack := X.stack, ex := fp, fn := fun _ => false, pn := [], xe := fun _ _ => False }
theorem zact {outer : Scope} : ∀ {names : List (Str × NameKind)} {x : Str} {k : NameKind},
  (names.map fun (n, k) => if (k == NameKind.free && outer.kind == .function && outer.names.lookup n == some .cell) then (n, NameKind.cell) else (n, k)).lookup x = some k →
   names.lookup x = some k ∨ (names.lookup x = some .free ∧ k = .cell)
 | [], x, k, h => by simp at h
 | (n, k') :: r, x, k, h => by
  rw [List.map_cons] at h
  by_cases hc : (k' == NameKind.free && outer.kind == .function && outer.names.lookup n == some .cell) = true
  ·simp only [hc, if_true] at h
   rw [List.lookup_cons] at h ⊢
   cases hx : x == n with
   | true =>
    rw [hx] at h
    simp only [Option.some.injEq] at h
    have hf : k' = .free := by
     have := (Bool.and_eq_true_iff.mp (Bool.and_eq_true_iff.mp hc).1).1
     simpa using this
    exact .inr ⟨by simp [hf], h.symm⟩
   | false => rw [hx] at h; exact zact h
  ·simp only [hc, Bool.false_eq_true, if_false] at h
   rw [List.lookup_cons] at h ⊢
   cases hx : x == n with
   | true => rw [hx] at h; exact .inl (by simpa using h)
   | false => rw [hx] at h; exact zact h
theorem zadv {outer : Scope} : ∀ {names : List (Str × NameKind)} {x : Str}, names.lookup x = some .free →
  (names.map fun (n, k) => if (k == NameKind.free && outer.kind == .function && outer.names.lookup n == some .cell) then (n, NameKind.cell) else (n, k)).lookup x = some .cell ∨
  (names.map fun (n, k) => if (k == NameKind.free && outer.kind == .function && outer.names.lookup n == some .cell) then (n, NameKind.cell) else (n, k)).lookup x = some .free
 | [], x, h => by simp at h
 | (n, k') :: r, x, h => by
  rw [List.lookup_cons] at h
  rw [List.map_cons]
  by_cases hc : (k' == NameKind.free && outer.kind == .function && outer.names.lookup n == some .cell) = true
  ·simp only [hc, if_true]
   rw [List.lookup_cons]
   cases hx : x == n with
   | true => exact .inl rfl
   | false => rw [hx] at h; exact zadv h
  ·simp only [hc, Bool.false_eq_true, if_false]
   rw [List.lookup_cons]
   cases hx : x == n with
   | true => rw [hx] at h; exact .inr h
   | false => rw [hx] at h; exact zadv h
theorem zacz {α : Type} : ∀ {l : List (Str × α)} {x : Str} {k : α}, l.lookup x = some k → (x, k) ∈ l
 | [], _, _, h => by simp at h
 | (n, k') :: r, x, k, h => by
  rw [List.lookup_cons] at h
  cases hx : x == n with
  | true =>
   rw [hx] at h
   have e : x = n := by simpa using hx
   have e2 : k' = k := by simpa using h
   rw [e, e2]; exact List.mem_cons_self
  | false => rw [hx] at h; exact List.mem_cons_of_mem _ (zacz h)
section
variable {X : Cx} {pins : List (Addr × Obj)} {σ : St} {H : Hp} {s : Shared} {sc : Scope} {own : List Str} {fr : List Nat} {N' : List Str} {cl : List (Str × Addr)}
theorem zag4 (I : Inv X pins σ H s) (cs : CompOk sc X.env.scope own X.N fr N') (h1 : ∀ x c, cl.lookup x = some c → X.env.cells.lookup x = some c) (h2 : ∀ y ∈ sc.names, y.2 = .free → ∃ c, cl.lookup y.1 = some c)
  {fp : List Addr} (hf : ∀ b ∈ fp, FpOk X pins H b ∧ ∃ o, s.heap.get? b = some o) {h' : Heap} {t' : Nat} {C D : Addr} {o : Obj} (hC : s.heap.objs.size ≤ C) (hD : s.heap.objs.size ≤ D) (hDC : D ≠ C)
  (k : ∀ b u, s.heap.get? b = some u → h'.get? b = some u) (hn : h'.Ns C fun _ => none) (hDo : h'.get? D = some o) (hd : ∀ v, o.data ≠ .cell v) :
  Inv (cxC X sc cl N' C s H fp) [(D, o)] (cst own.length fr σ) H { s with heap := h', toks := t' } := by
 have lt : ∀ b u, s.heap.get? b = some u → b < s.heap.objs.size := fun b u e => Heap.lt_size e
 have fpC : ∀ b ∈ fp, b ≠ C := fun b hb z => by
  obtain ⟨_, o, e⟩ := hf b hb
  have := lt b o e
  rw [z] at this
  exact absurd (Nat.lt_of_lt_of_le this hC) (Nat.lt_irrefl _)
 have lenN : N'.length = own.length + fr.length := by
  have := congrArg List.length cs.all
  simpa using this
 refine ⟨⟨I.ok.mod, cs.kind, I.ok.glob, I.ok.blt, hC, fun x y c e1 e2 => I.ok.inj x y c (h1 x c e1) (h1 y c e2), fun x hx => ?_, fun x c z => absurd z Bool.false_ne_true, I.ok.hd, I.ok.frames, .inl rfl, fun b hb => ⟨fpC b hb, fun x c e => (hf b hb).1.2.2.2.2.1 x c (h1 x c e)⟩,
   I.bs, Nat.le_trans I.ok.bsz I.sz, fun b o' e hb => ?_, fun b hb z => ?_, I.stack, I.stkFree⟩,
  rfl, I.bare, Un.kept k, ⟨_, hn, fun i x v e1 e2 e3 => ?_⟩, fun x c e => ?_, I.hok.fresh hC, fun x c e => I.freeC x c (h1 x c e), fun p hp => ?_, I.hok.kept k, ?_⟩
 ·have hx' : (relab sc X.env.scope).names.lookup x = some .cell ∨ (relab sc X.env.scope).names.lookup x = some .free := hx
  have hfree : sc.names.lookup x = some .free := by
   rcases hx' with z | z
   ·rcases zact z with q | q
    ·exact absurd rfl (cs.nocell _ (zacz q))
    ·exact q.1
   ·rcases zact z with q | q
    ·exact q
    ·exact q.1
  exact h2 (x, .free) (zacz hfree) rfl
 ·have q := (hf b hb).1.2.2.2.1
  rcases q with q | q
  ·exact I.ok.noex b o' e q
  ·exact absurd (Nat.lt_of_lt_of_le (Heap.lt_size (I.ok.bs b o' e).1) q) (Nat.lt_irrefl _)
 ·have z' : b ∈ frs X.stack := z
  rcases List.mem_cons.mp (I.stkSub b z') with q | q
  ·exact (hf b hb).1.2.1 q
  ·exact (hf b hb).1.2.2.1 q
 ·-- a name of the block at its entry is one of the def's
  have hi : own.length ≤ i := by
   by_cases hi : i < own.length
   ·have e2' : (cst own.length fr σ)[i]? = some none := by
     unfold cst
     rw [List.getElem?_append_left (by simpa using hi), List.getElem?_replicate, if_pos hi]
    rw [e2'] at e2; cases e2
   ·omega
  have e2' : (fr.map fun j => (σ[j]?).join)[i - own.length]? = some (some v) := by
   unfold cst at e2
   rwa [List.getElem?_append_right (by simpa using hi), List.length_replicate] at e2
  rw [List.getElem?_map] at e2'
  have e1a : (N'.map some)[i]? = some (some x) := by
   have e1 : N'[i]? = some x := e1
   rw [List.getElem?_map, e1]; rfl
  rw [cs.all, List.getElem?_append_right (by simpa using hi), List.length_map, List.getElem?_map] at e1a
  cases ej : fr[i - own.length]? with
  | none => rw [ej] at e2'; cases e2'
  | some j =>
   rw [ej] at e2' e1a
   have hj : j ∈ fr := List.mem_of_getElem? ej
   have nj : X.N[j]? = some x := by simpa using e1a
   have sj : σ[j]? = some (some v) := by
    have : (σ[j]?).join = some v := by simpa using e2'
    cases q : σ[j]? with
    | none => rw [q] at this; cases this
    | some y => rw [q] at this; simp at this; rw [this]
   obtain ⟨kf, ko⟩ := cs.frk j hj x nj
   obtain ⟨m, hm, hl⟩ := I.loc
   obtain ⟨u, r, l⟩ := hl j x v nj sj (.inr ko)
   refine ⟨u, r, .inr ?_⟩
   have lk : X.env.kindOf x = some .cell ∨ X.env.kindOf x = some .free := ko
   rcases l with ⟨z, _⟩ | ⟨_, c, ec, ic⟩
   ·rcases lk with q | q <;> rw [z] at q <;> cases q
   ·obtain ⟨c', hc'⟩ := h2 (x, .free) (zacz kf) rfl
    have : c' = c := by
     have := h1 x c' hc'
     rw [ec] at this; exact (Option.some.inj this).symm
    subst this
    refine ⟨zadv kf, c', hc', ?_⟩
    obtain ⟨oc, hoc, hcd⟩ := ic
    exact ⟨oc, k c' oc hoc, hcd⟩
 ·obtain ⟨v, oc, hoc, hcd⟩ := I.cell x c (h1 x c e)
  exact ⟨v, oc, k c oc hoc, hcd⟩
 ·have hp' : p ∈ [(D, o)] := hp
  have e : p = (D, o) := by simpa using hp'
  subst e
  refine ⟨hDo, I.hok.fresh hD, hDC, fun z => ?_, hd⟩
  have z' : D ∈ frs X.stack := z
  obtain ⟨_, o2, ho2, _⟩ := I.stack.mem z'
  exact absurd (Nat.lt_of_lt_of_le (Heap.lt_size ho2) hD) (Nat.lt_irrefl _)
 ·show (cst own.length fr σ).length = N'.length
  unfold cst
  rw [List.length_append, List.length_replicate, List.length_map, lenN]
theorem zajo (I : Inv X pins σ H s) {fp : List Addr} (hf : ∀ b ∈ fp, FpOk X pins H b ∧ ∃ o, s.heap.get? b = some o) {C D : Addr} {its : List Value} {ys : List V} {n : Nat} {σ' : St} {H' : Hp} {s' : Shared}
  (hD : s.heap.objs.size ≤ D) (J : Inv (cxC X sc cl N' C s H fp) [(D, { cls := .type "list", data := .seq its.toArray n })] σ' H' s') (r : Vals ys its) (hz : ys.length ≤ sizeLine) : Inv X pins σ (upd H' D (.lst ys)) s' := by
 obtain ⟨hDo, hDn, hDC, hDf, hDc⟩ := J.pin (D, { cls := .type "list", data := .seq its.toArray n }) (List.mem_append_right _ List.mem_cons_self)
 have u : Un (frs X.stack) fp H H' s.heap s'.heap := J.base
 have os : s'.os = s.os := J.os
 have lt : ∀ b ob, s.heap.get? b = some ob → b ≠ D := fun b ob e z => by
  have := Heap.lt_size e
  rw [z] at this
  exact absurd (Nat.lt_of_lt_of_le this hD) (Nat.lt_irrefl _)
 refine I.call' (ch := fp) os ⟨u.keep, u.slot, fun b ob e n hx => ?_, u.there, fun b xs e => ?_, fun b ob x e => ?_, fun b ps e => ?_⟩ ?_ J.bare (fun b hb => ?_)
 ·rw [zaax (lt b ob e)]; exact u.free b ob e n hx
 ·have := u.tups b xs e
  rw [zaax (zaan this hDn)]; exact this
 ·have := u.frzs b ob x e
  rw [zaax (zaan this hDn)]; exact this
 ·obtain ⟨m, q⟩ := u.tbls b ps e
  exact ⟨m, by rw [zaax (zaan q hDn)]; exact q⟩
 ·intro b ob e
  by_cases hb : b = D
  ·subst hb
   rw [zaak] at e; cases e
   exact ⟨hz, its, n, r, hDo⟩
  ·rw [zaax hb] at e
   exact (J.hok b ob e).stay (fun c v _ q => q) (fun c q => by rw [zaax (zaan q hDn)]; exact q) fun c xs q => by rw [zaax (zaan q hDn)]; exact q
 ·obtain ⟨_, f1, _, f3, f4, f5⟩ := (hf b hb).1
  exact ⟨f3, f1, f4, f5⟩
end
def PIf (X : Cx) (ifs : List Expr) (t : TT) : Prop :=
 ∀ (pins : List (Addr × Obj)) (s : Shared) (σ : St) (H : Hp) (Q : Bool → Hp → Prop), Inv X pins σ H s → t σ H Q →
  wpAny (model X.prog X.w) X.A (forIn ifs true fun c r => if r = true then do let ok ← isTrue c X.env (eval c X.env); pure (ForInStep.yield ok) else pure (ForInStep.yield r)) (TP X pins σ Q) X.xe s
def tYes : TT := fun _ H Q => Q true H
theorem zam6 {X : Cx} : PIf X [] tYes := fun _ _ _ H _ I h => wpAny_tests_nil ⟨H, I, h⟩
theorem zam7 {X : Cx} {c : Expr} {t : TT} (h : PT X c t) : PIf X [c] t := fun pins s σ H Q I q => wpAny_tests_one (h pins s σ H Q I q)
structure Comp (J : It) (g : TG) (tt : TT) (te : TE) (Q : List V → Hp → Prop) (σ : St) (H : Hp) : Prop where
 ex : ∃ W : Nat → Nat → List V → St → Hp → Prop, (∃ m, W 0 m [] σ H) ∧ ∀ i m ys σ H, W i m ys σ H → ys.length < sizeLine ∧
  ((J.stop i H ∧ Q ys H) ∨ (J.go i H ∧ ∃ N : List V → St → Hp → Prop, (∀ ys' σ' H', N ys' σ' H' → ∃ m', m' < m ∧ W (i + 1) m' ys' σ' H') ∧
    ∀ x H', J.yld i H x H' → g x σ H' fun σ2 H2 => tt σ2 H2 fun b H3 => if b = true then te σ2 H3 fun y H4 => N (ys ++ [y]) σ2 H4 else N ys σ2 H3))
section
variable {prog : Program} {w : World} {A : Around} {R : Result → Shared → Prop} {s : Shared}
theorem zago {elt target iter : Expr} {ifs : List Expr} {scope : Scope} {pos : Pos} {it acc : Value} {env : Env} (I : Nat → Shared → Prop)
  (turn : ∀ n s, I n s → wpAny (model prog w) A (pyNext it) (fun r s₁ => match r with
   | none => R (.ok .next) s₁
   | some v => wpAny (model prog w) A (letOwnedTupleGo target it v) (fun _ s₁ => wpAny (model prog w) A (assign target env v) (fun _ s₂ =>
     wpAny (model prog w) A (forIn ifs true fun c r => if r = true then do let ok ← isTrue c env (eval c env); pure (ForInStep.yield ok) else pure (ForInStep.yield r)) (fun ok s₃ =>
      if ok = true then wpAny (model prog w) A (eval elt env) (fun x s₄ =>
       wpAny (model prog w) A (call (.builtin "list.append") [acc, x]) (fun _ s₅ => ∃ m, m < n ∧ I m s₅) (fun _ _ => False) s₄) (fun _ _ => False) s₃
      else ∃ m, m < n ∧ I m s₃) (fun _ _ => False) s₂) (fun _ _ => False) s₁) (fun _ _ => False) s₁) (fun _ _ => False) s)
  (n : Nat) (h : I n s) : codeAny (model prog w) A (.compLoop (.ListComp elt [⟨target, iter, ifs, 0⟩] scope pos) 0 it acc env) R s := by
 refine codeAny_loop rfl I (fun n s hI => ?_) n h
 show wpAny _ A ((compTurn (.ListComp elt [⟨target, iter, ifs, 0⟩] scope pos) 0 it acc env).onRaise (fun x => do noteFrame x env; theTreesLotGoes x)) _ _ s
 refine wpAny_noted (wpAny_noRaise ?_)
 rw [compTurn_list]
 refine wpAny_bind (wpAny_standAt (wpAny_bind (wpAny_mono (turn n s hI) (fun r s₁ h₁ => ?_) fun _ _ h' => h')))
 cases r with
 | none => exact wpAny_pure h₁
 | some v =>
  refine wpAny_bind (wpAny_mono h₁ (fun _ s₁ h₁ => ?_) fun _ _ h' => h')
  refine wpAny_bind (wpAny_mono h₁ (fun _ s₂ h₂ => wpAny_bind (wpAny_mono h₂ (fun ok s₃ h₃ => ?_) fun _ _ h' => h')) fun _ _ h' => h')
  cases ok with
  | false => exact wpAny_pure ⟨rfl, h₃⟩
  | true =>
   exact wpAny_bind (wpAny_bind (wpAny_mono h₃ (fun x s₄ h₄ => wpAny_bind (wpAny_mono h₄ (fun _ s₅ h₅ => wpAny_pure (wpAny_pure ⟨rfl, h₅⟩)) fun _ _ h' => h')) fun _ _ h' => h'))
end
end L2

namespace L2
open PySem PySem.Spec PyProof.Rows
structure TurnX (G : Cx → Prop) (P : Program) (w : World) (K : PySem.W.Frag) (tg : Expr) (J : It) (fp : List Addr) (it : Addr) (tn : Nat → Heap → Prop) : Prop where
 obj : ∀ i h, tn i h → ∀ b ∈ fp, ∃ o, h.get? b = some o ∧ ∀ v, o.data ≠ .cell v
 keep : ∀ i h h', tn i h → (∀ b ∈ fp, ∀ o, h.get? b = some o → h'.get? b = some o) → tn i h'
 item : ∀ (X : Cx), X.prog = P → X.w = w → X.K = K → G X → ∀ (i : Nat) (pins : List (Addr × Obj)) (s : Shared) (σ : St) (H : Hp) (E : Value → Shared → Prop), Inv X pins σ H s → (∀ b ∈ fp, FpOk X pins H b) → tn i s.heap → J.go i H →
  wpAny (model P w) X.A (pyNext (.ref it)) (fun r s1 => ∃ u, r = some u ∧
   wpAny (model P w) X.A (letOwnedTupleGo tg (.ref it) u) (fun _ s2 => ∃ x H', Inv X pins σ H' s2 ∧ RelV x u ∧ J.yld i H x H' ∧ tn (i + 1) s2.heap ∧ ∀ b ∈ fp, H' b = none) E s1) E s
 done : ∀ (X : Cx), X.prog = P → X.w = w → X.K = K → G X → ∀ (i : Nat) (pins : List (Addr × Obj)) (s : Shared) (σ : St) (H : Hp) (E : Value → Shared → Prop), Inv X pins σ H s → (∀ b ∈ fp, FpOk X pins H b) → tn i s.heap → J.stop i H →
  wpAny (model P w) X.A (pyNext (.ref it)) (fun r s1 => r = none ∧ Inv X pins σ H s1) E s
 self : ∀ (A : Around) (i : Nat) (s : Shared) (Q : Value → Shared → Prop) (E : Value → Shared → Prop), tn i s.heap → Q (.ref it) s → wpAny (model P w) A (pyIter (.ref it)) Q E s
theorem Turn.x {P : Program} {w : World} {K : PySem.W.Frag} {tg : Expr} {J : It} {fp : List Addr} {it : Addr} {tn : Nat → Heap → Prop} (T : Turn P w K tg J fp it tn) : TurnX (fun X => X.calm = true) P w K tg J fp it tn := ⟨T.obj, T.keep, T.item, T.done, T.self⟩
section
variable {X : Cx} {sc : Scope} {own : List Str} {fr : List Nat} {N' : List Str} {tg elt iter : Expr} {ifs : List Expr} {g : TG} {tt : TT} {te : TE} {wi : TI} {pos : Pos}
theorem zadw {G : Cx → Prop} {pins : List (Addr × Obj)} {σ : St} {H : Hp} {s2 : Shared} {it : Addr} {fp : List Addr} {tn : Nat → Heap → Prop} {J : It} {QQ : List V → Hp → Prop} {cl : List (Str × Addr)} {RR : Value → Addr → Result → Shared → Prop} {E : Value → Shared → Prop}
  (I2 : Inv X pins σ H s2) (hc : ∀ cl C s H fp, G (cxC X sc cl N' C s H fp)) (T : TurnX G X.prog X.w X.K tg J fp it tn) (st : tn 0 s2.heap) (f2 : ∀ b ∈ fp, FpOk X pins H b) (cs : CompOk sc X.env.scope own X.N fr N')
  (h1 : ∀ x c, cl.lookup x = some c → X.env.cells.lookup x = some c) (h2 : ∀ y ∈ sc.names, y.2 = .free → ∃ c, cl.lookup y.1 = some c)
  (hg : ∀ cl C s H fp, PG (cxC X sc cl N' C s H fp) tg g) (hif : ∀ cl C s H fp, PIf (cxC X sc cl N' C s H fp) ifs tt) (he : ∀ cl C s H fp, PE (cxC X sc cl N' C s H fp) elt te)
  (KK : Comp J g tt te QQ (cst own.length fr σ) H)
  (hRR : ∀ D C m H' ys s', s2.heap.objs.size ≤ C → s'.heap.Ns C m → H' D = none → (upd H' D (.lst ys)) C = none → QQ ys H' → Inv X pins σ (upd H' D (.lst ys)) s' → RR (.ref D) C (.ok .next) s') :
  wpAny (model X.prog X.w) X.A (newList []) (fun acc s₃ => wpAny (model X.prog X.w) X.A (newFunctionEnv sc X.env.globals cl [] X.env.qual none .none (some X.env)) (fun cenv s₄ =>
   codeAny (model X.prog X.w) X.A (.compStart (.ListComp elt [⟨tg, iter, ifs, 0⟩] sc pos) 0 (.ref it) acc { cenv with scope := relabel sc X.env }) (RR acc cenv.locals) s₄) E s₃) E s2 := by
 refine wpAny_newObj_type (wpAny_newFunctionEnv cs.nocell (by intro y hy; simp at hy) (fun h₁ hns₁ hsb₁ => ?_) cs.kind)
 dsimp only at hns₁ hsb₁ ⊢
 generalize hH2 : s2.heap.push { cls := .type "list", dict := none, data := .seq ([] : List Value).toArray } = H2 at hns₁ hsb₁ ⊢
 have hC : H2.objs.size = s2.heap.objs.size + 1 := by rw [← hH2, Heap.size_push]
 have hDC : s2.heap.objs.size ≠ H2.objs.size := by rw [hC]; exact Nat.ne_of_lt (Nat.lt_succ_self _)
 have hCle : s2.heap.objs.size ≤ H2.objs.size := by rw [hC]; exact Nat.le_succ _
 have below : ∀ b, b < s2.heap.objs.size → b ≠ H2.objs.size ∧ b ≠ s2.heap.objs.size := fun b hb => ⟨by rw [hC]; exact Nat.ne_of_lt (Nat.lt_succ_of_lt hb), Nat.ne_of_lt hb⟩
 have old : ∀ b o, s2.heap.get? b = some o → h₁.get? b = some o := fun b o e => hsb₁.extBut b o (below b (Heap.lt_size e)).1 (Heap.get?_push_of_some _ (hH2 ▸ Heap.get?_push_of_some _ e))
 have hacc : h₁.get? s2.heap.objs.size = some { cls := .type "list", data := .seq ([] : List Value).toArray 0 } := hsb₁.extBut _ _ hDC (Heap.get?_push_of_some _ (hH2 ▸ Heap.get?_push_size _ rfl))
 have fpo : ∀ b ∈ fp, FpOk X pins H b ∧ ∃ o, s2.heap.get? b = some o := fun b hb => ⟨f2 b hb, let ⟨o, e, _⟩ := T.obj 0 _ st b hb; ⟨o, e⟩⟩
 have st1 : tn 0 h₁ := T.keep _ _ _ st fun b hb o e => old b o e
 have hns : h₁.Ns H2.objs.size fun _ => none := by simpa using hns₁
 obtain ⟨W, ⟨m0, w0⟩, turn⟩ := KK.ex
 have loop : ∀ s₃ : Shared, s₃ = { s2 with heap := h₁, toks := s2.toks + ([] : List (Str × Value)).length } →
   codeAny (model X.prog X.w) X.A (.compLoop (.ListComp elt [⟨tg, iter, ifs, 0⟩] sc pos) 0 (.ref it) (.ref s2.heap.objs.size) (compEnvC sc cl H2.objs.size X.env)) (RR (.ref s2.heap.objs.size) H2.objs.size) s₃ := by
  rintro s₃ rfl
  have J0 : Inv (cxC X sc cl N' H2.objs.size s2 H fp) [(s2.heap.objs.size, { cls := .type "list", data := .seq ([] : List Value).toArray 0 })] (cst own.length fr σ) H { s2 with heap := h₁, toks := s2.toks + ([] : List (Str × Value)).length } :=
   zag4 I2 cs h1 h2 fpo hCle (Nat.le_refl _) hDC old hns hacc (fun v z => by cases z)
  have stat : ∀ {pl : List (Addr × Obj)} {H' : Hp}, (∀ p ∈ pl, p.1 = s2.heap.objs.size) → (∀ b ∈ fp, H' b = none) → ∀ b ∈ fp, FpOk (cxC X sc cl N' H2.objs.size s2 H fp) pl H' b := fun {pl H'} hpl hn b hb => by
   obtain ⟨f, ob, e⟩ := fpo b hb
   refine ⟨hn b hb, (below b (Heap.lt_size e)).1, fun z => ?_, .inl hb, fun x c ec => f.2.2.2.2.1 x c (h1 x c ec), fun p hp => ?_⟩
   ·have z' : b ∈ frs X.stack := z
    rcases List.mem_cons.mp (I2.stkSub b z') with q | q
    ·exact f.2.1 q
    ·exact f.2.2.1 q
   ·have hp' : p ∈ pl := hp
    rw [hpl p hp']
    exact Ne.symm (below b (Heap.lt_size e)).2
  have one : ∀ (o : Obj), ∀ p ∈ [(s2.heap.objs.size, o)], p.1 = s2.heap.objs.size := fun o p hp => by
   have : p = (s2.heap.objs.size, o) := by simpa using hp
   rw [this]
  refine zago (env := compEnvC sc cl H2.objs.size X.env) (fun n s' => ∃ i ys its k σ' H', Inv (cxC X sc cl N' H2.objs.size s2 H fp) [(s2.heap.objs.size, { cls := .type "list", data := .seq (its : List Value).toArray k })] σ' H' s' ∧ tn i s'.heap ∧ (∀ b ∈ fp, H' b = none) ∧ Vals ys its ∧ W i n ys σ' H')
   ?_ m0 ⟨0, [], [], 0, _, H, J0, st1, fun b hb => (f2 b hb).1, .nil, w0⟩
  rintro n s3 ⟨i, ys, its, k, σ3, H3, I3, st3, fr3, rv, w3⟩
  obtain ⟨hlen, alt⟩ := turn i n ys σ3 H3 w3
  rcases alt with ⟨stop, qn⟩ | ⟨go, N, hN, step⟩
  ·refine wpAny_mono (T.done (cxC X sc cl N' H2.objs.size s2 H fp) rfl rfl rfl (hc _ _ _ _ _) i _ s3 σ3 H3 (fun _ _ => False) I3 (stat (one _) fr3) st3 stop) (fun r s4 ⟨hr, I4⟩ => ?_) fun _ _ z => z
   subst hr
   obtain ⟨m, hm, _⟩ := I4.loc
   have hDn : H3 s2.heap.objs.size = none := (I4.pin (s2.heap.objs.size, { cls := .type "list", data := .seq its.toArray k }) (List.mem_append_right _ List.mem_cons_self)).2.1
   exact hRR _ _ m H3 ys s4 hCle hm hDn (by rw [zaax (Ne.symm hDC)]; exact I4.free) qn (zajo I2 fpo (Nat.le_refl _) I4 rv (Nat.le_of_lt hlen))
  ·refine wpAny_mono (T.item (cxC X sc cl N' H2.objs.size s2 H fp) rfl rfl rfl (hc _ _ _ _ _) i _ s3 σ3 H3 (fun _ _ => False) I3 (stat (one _) fr3) st3 go) (fun r s4 ⟨u, hr, h4⟩ => ?_) fun _ _ z => z
   subst hr
   refine wpAny_mono h4 (fun _ s5 ⟨x, H5, I5, r5, y5, st5, fr5⟩ => ?_) fun _ _ z => z
   have I5' := I5.pinned (stat (one _) fr5) (T.obj _ _ st5)
   refine wpAny_mono (hg cl H2.objs.size s2 H fp _ s5 σ3 H5 x u _ I5' r5 (step x H5 y5)) (fun _ s6 ⟨σ6, H6, I6, q6⟩ => ?_) fun _ _ z => z
   refine wpAny_mono (hif cl H2.objs.size s2 H fp _ s6 σ6 H6 _ I6 q6) (fun b s7 ⟨H7, I7, q7⟩ => ?_) fun _ _ z => z
   have fps : ∀ {σ8 : St} {H8 : Hp} {s8 : Shared}, Inv (cxC X sc cl N' H2.objs.size s2 H fp) ([(s2.heap.objs.size, { cls := .type "list", data := .seq its.toArray k })] ++ pinsAt fp s5.heap) σ8 H8 s8 →
     tn (i + 1) s8.heap ∧ ∀ b ∈ fp, H8 b = none := fun {σ8 H8 s8} I8 => by
    refine ⟨T.keep _ _ _ st5 fun b hb o e => (I8.pin (b, o) (List.mem_append_right _ (List.mem_append_right _ (zada hb e)))).1, fun b hb => ?_⟩
    obtain ⟨o, e, d⟩ := T.obj _ _ st5 b hb
    exact (I8.pin (b, o) (List.mem_append_right _ (List.mem_append_right _ (zada hb e)))).2.1
   cases b with
   | false =>
    obtain ⟨m', hm, w7⟩ := hN ys σ6 H7 q7
    exact ⟨m', hm, i + 1, ys, its, k, σ6, H7, I7.unpinned, (fps I7).1, (fps I7).2, rv, w7⟩
   | true =>
    have q7' : te σ6 H7 fun y H4 => N (ys ++ [y]) σ6 H4 := q7
    refine wpAny_mono (he cl H2.objs.size s2 H fp _ s7 σ6 H7 _ I7 q7') (fun uy s8 ⟨y, H8, I8, r8, n8⟩ => ?_) fun _ _ z => z
    obtain ⟨m', hm, w8⟩ := hN _ _ _ n8
    obtain ⟨hDo, hDn, hDL, hDf, _⟩ := I8.pin (s2.heap.objs.size, { cls := .type "list", data := .seq its.toArray k }) (List.mem_append_right _ (List.mem_append_left _ List.mem_cons_self))
    have hys : its.toArray.size ≤ sizeLine := by rw [List.size_toArray, ← rv.length]; exact Nat.le_of_lt hlen
    refine wpAny_list_append_plain (hsz := hys) (⟨k, hDo⟩ : s8.heap.PlainList s2.heap.objs.size its.toArray) fun h9 ⟨k', hl9⟩ hs9 => ?_
    have hDp : ∀ p ∈ (cxC X sc cl N' H2.objs.size s2 H fp).pn ++ pinsAt fp s5.heap, p.1 ≠ s2.heap.objs.size := fun p hp => by
     have hp' : p ∈ pinsAt fp s5.heap := by
      have hp2 : p ∈ ([] : List (Addr × Obj)) ++ pinsAt fp s5.heap := hp
      simpa using hp2
     obtain ⟨hb, _⟩ := zagb hp'
     obtain ⟨_, ob, e⟩ := fpo p.1 hb
     exact (below p.1 (Heap.lt_size e)).2
    have I8' : Inv (cxC X sc cl N' H2.objs.size s2 H fp) (pinsAt fp s5.heap) σ6 H8 s8 := I8.pins_of fun p hp => I8.pin p (List.mem_append_right _ (List.mem_append_right _ hp))
    have I9 : Inv (cxC X sc cl N' H2.objs.size s2 H fp) (pinsAt fp s5.heap) σ6 H8 { s8 with heap := h9 } := I8'.turned (t' := s8.toks) (it := s2.heap.objs.size) (fun b o hb e => (hs9.2 b hb).trans e) hDn hDL (.inr (Nat.le_refl _))
     (fun x c e z => by
      obtain ⟨v, q⟩ := I2.cell x c (h1 x c e)
      have := q.lt
      rw [z] at this
      exact absurd this (Nat.lt_irrefl _)) hDp
    have key := fps I8
    refine ⟨m', hm, i + 1, ys ++ [y], its ++ [uy], k', σ6, H8, I9.pins_of fun p hp => ?_, T.keep _ _ _ key.1 fun b hb o e => ?_, key.2, rv.append (.cons r8 .nil), w8⟩
    ·have e : p = (s2.heap.objs.size, { cls := .type "list", data := .seq (its ++ [uy]).toArray k' }) := by simpa using hp
     subst e
     refine ⟨?_, hDn, hDL, hDf, fun v z => by cases z⟩
     have : (its ++ [uy]).toArray = its.toArray.push uy := by simp
     rw [this]; exact hl9
    ·obtain ⟨_, ob, e2⟩ := fpo b hb
     exact (hs9.2 b (below b (Heap.lt_size e2)).2).trans e
 exact codeAny_compStart_list (loop _ rfl) (wpAny_mono (T.self X.A 0 _ (fun it' s' => it' = .ref it ∧ s' = { s2 with heap := h₁, toks := s2.toks + ([] : List (Str × Value)).length }) _ st1 ⟨rfl, rfl⟩) (fun it' s' ⟨e1, e2⟩ => by subst e1 e2; exact loop _ rfl) fun _ _ z => z)
def tComp (n : Nat) (fr : List Nat) (wi : TI) (g : TG) (tt : TT) (te : TE) : TE := fun σ H Q => wi σ H fun J H1 => Comp J g tt te (fun ys H2 => ∀ D, H2 D = none → Q (.ref D) (upd H2 D (.lst ys))) (cst n fr σ) H1
theorem zam8 (hc : X.calm = true) (cs : CompOk sc X.env.scope own X.N fr N') (hi : PI X tg iter wi) (hg : ∀ cl C s H fp, PG (cxC X sc cl N' C s H fp) tg g) (hif : ∀ cl C s H fp, PIf (cxC X sc cl N' C s H fp) ifs tt)
  (he : ∀ cl C s H fp, PE (cxC X sc cl N' C s H fp) elt te) (hs : ∀ x, foldedSetIterable iter X.env x = pure x := by intro _; rfl) : PE X (.ListComp elt [⟨tg, iter, ifs, 0⟩] sc pos) (tComp own.length fr wi g tt te) := by
 intro pins s σ H Q I h
 obtain ⟨cl, ecl, h1, h2⟩ := zadh (env := X.env) (sc := sc) fun y hy hf => I.ok.has y.1 (cs.fre y hy hf)
 rw [eval_ListComp]
 refine wpAny_comprehension_free (use := none) rfl hs ecl cs.kind cs.loc (thn (hi pins s σ H _ I h) fun v s1 q1 => thn q1 fun itv s2 q2 => ?_)
 obtain ⟨it, fp, tn, J, H2, rfl, I2, T, st, f2, KK⟩ := q2
 refine zadw (RR := fun acc C => compPost (model X.prog X.w) X.A X.xe none (EP X pins σ Q) acc C) I2 (fun _ _ _ _ _ => hc) T.x st f2 cs h1 h2 hg hif he KK fun D C m H' ys s' hC hn hD hCn hq I' => ?_
 refine ⟨m, hn, fun h' hs' => ⟨.ref D, upd H' D (.lst ys), ?_, rfl, hq D hD⟩⟩
 obtain ⟨f0, f1, f2, f3, f4, f5⟩ := I2.fpOk hC hCn
 exact I'.turned (t' := s'.toks) (it := C) (fun b o hb e => (hs'.2 b hb).trans e) f0 (Ne.symm (Ne.symm f1)) f3 f4 f5
def tSetC (i n : Nat) (fr : List Nat) (wi : TI) (g : TG) (tt : TT) (te : TE) : TS := fun D σ H => wi σ H fun J H1 => Comp J g tt te (fun ys H2 => ∀ p, H2 p = none → D.nx (σ.set i (some (.ref p))) (upd H2 p (.lst ys))) (cst n fr σ) H1
theorem zam9 {i : Nat} {y : Str} {py spos : Pos} (hN : X.N.Nodup) (hy : X.N[i]? = some y) (hx : Loc X.env.scope y) (hc : X.calm = true) (cs : CompOk sc X.env.scope own X.N fr N') (hi : PI X tg iter wi)
  (hg : ∀ cl C s H fp, PG (cxC X sc cl N' C s H fp) tg g) (hif : ∀ cl C s H fp, PIf (cxC X sc cl N' C s H fp) ifs tt) (he : ∀ cl C s H fp, PE (cxC X sc cl N' C s H fp) elt te)
  (hsw : swapsWith (.ListComp elt [⟨tg, iter, ifs, 0⟩] sc pos) (some (.Name y py)) spos.line X.env = pure true) (hfn : X.fn y = true ∨ X.env.scope.names.lookup y = some .local := by first | exact .inl rfl | exact .inr rfl | assumption) (hs : ∀ x, foldedSetIterable iter X.env x = pure x := by intro _; rfl) :
  PS X (.Assign [.Name y py] (.ListComp elt [⟨tg, iter, ifs, 0⟩] sc pos) spos) (tSetC i own.length fr wi g tt te) := by
 intro pins s σ H D I h
 obtain ⟨cl, ecl, h1, h2⟩ := zadh (env := X.env) (sc := sc) fun y hy hf => I.ok.has y.1 (cs.fre y hy hf)
 rw [exec_Assign_Name_used _ _ _ _ hsw]
 refine wpAny_bind (wpAny_standAt (wpAny_bind ?_))
 show wpAny _ X.A (do let _ ← comprehension (.ListComp elt [⟨tg, iter, ifs, 0⟩] sc pos) sc X.env _ (newList []) false (eval iter X.env) (some (assign (.Name y py) X.env))) _ _ s
 refine wpAny_bind (wpAny_mono (wpAny_comprehension_free (use := some (assign (.Name y py) X.env)) (Q := fun _ s' => ∃ σ' H', Inv X pins σ' H' s' ∧ D.nx σ' H') rfl hs ecl cs.kind cs.loc (thn (hi pins s σ H _ I h) fun v s1 q1 => thn q1 fun itv s2 q2 => ?_))
  (fun _ s' hq => wpAny_pure (wpAny_pure hq)) fun _ _ e => e)
 obtain ⟨it, fp, tn, J, H2, rfl, I2, T, st, f2, KK⟩ := q2
 refine zadw (RR := fun acc C => compPost (model X.prog X.w) X.A X.xe (some (assign (.Name y py) X.env)) (fun _ s' => ∃ σ' H', Inv X pins σ' H' s' ∧ D.nx σ' H') acc C) I2 (fun _ _ _ _ _ => hc) T.x st f2 cs h1 h2 hg hif he KK fun p C m H' ys s' hC hn hD hCn hq I' => ?_
 obtain ⟨f0, f1, f2, f3, f4, f5⟩ := I2.fpOk hC hCn
 show wpAny _ X.A (assign (.Name y py) X.env (.ref p)) _ _ _
 refine wpAny_assign_Name (zaeg (v := .ref p) I' hN hy hx rfl (fun s'' I'' ⟨a, hsa, ha⟩ => ?_) hfn)
 have hCa : C ≠ a := by
  rcases ha with z | z
  ·rw [z]; exact f1
  ·exact Ne.symm (f4 y a z)
 refine ⟨m, hn.sameBut hsa hCa, fun h' hs' => ⟨_, _, ?_, hq p hD⟩⟩
 exact I''.turned (t' := s''.toks) (it := C) (fun b o hb e => (hs'.2 b hb).trans e) f0 f1 f3 f4 f5
end
theorem zafn {J : It} {g : TG} {tt : TT} {te : TE} {Q : List V → Hp → Prop} {σ : St} {H : Hp} (n : Nat) (Pv : Nat → List V → St → Hp → Prop) (h0 : Pv 0 [] σ H) (hl : ∀ i ys σ H, i ≤ n → Pv i ys σ H → ys.length < sizeLine)
  (go : ∀ i ys σ H, i < n → Pv i ys σ H → J.go i H) (stop : ∀ ys σ H, Pv n ys σ H → J.stop n H)
  (turn : ∀ i ys σ H, i < n → Pv i ys σ H → ∀ x H', J.yld i H x H' → g x σ H' fun σ2 H2 => tt σ2 H2 fun b H3 => if b = true then te σ2 H3 fun y H4 => Pv (i + 1) (ys ++ [y]) σ2 H4 else Pv (i + 1) ys σ2 H3)
  (after : ∀ ys σ H, Pv n ys σ H → Q ys H) : Comp J g tt te Q σ H := by
 refine ⟨fun i m ys σ H => i ≤ n ∧ m = n - i ∧ Pv i ys σ H, ⟨n, Nat.zero_le _, rfl, h0⟩, fun i m ys σ H ⟨hi, hm, p⟩ => ⟨hl i ys σ H hi p, ?_⟩⟩
 rcases Nat.lt_or_ge i n with h | h
 ·exact .inr ⟨go i ys σ H h p, Pv (i + 1), fun ys' σ' H' q => ⟨n - (i + 1), by omega, h, rfl, q⟩, turn i ys σ H h p⟩
 ·have e : i = n := Nat.le_antisymm hi h
  subst e
  exact .inl ⟨stop ys σ H p, after ys σ H p⟩
theorem zala {K : PySem.W.Frag} {a : Addr} (xs : List V) {g : TG} {tt : TT} {te : TE} {Q : List V → Hp → Prop} {σ : St} {H : Hp} (Pv : Nat → List V → St → Hp → Prop) (hn : xs.length < sizeLine) (h0 : Pv 0 [] σ H) (hl : ∀ i ys σ H, i ≤ xs.length → Pv i ys σ H → ys.length ≤ i ∧ SqT K H a xs)
  (turn : ∀ i ys σ H x, xs[i]? = some x → Pv i ys σ H → g x σ H fun σ2 H2 => tt σ2 H2 fun b H3 => if b = true then te σ2 H3 fun y H4 => Pv (i + 1) (ys ++ [y]) σ2 H4 else Pv (i + 1) ys σ2 H3)
  (after : ∀ ys σ H, Pv xs.length ys σ H → Q ys H) : Comp (Itt K a) g tt te Q σ H :=
 zafn xs.length Pv h0 (fun i ys σ H hi p => Nat.lt_of_le_of_lt (Nat.le_trans (hl i ys σ H hi p).1 hi) hn) (fun i ys σ H hi p => ⟨xs, xs[i], (hl i ys σ H (Nat.le_of_lt hi) p).2, List.getElem?_eq_getElem hi⟩)
  (fun ys σ H p => ⟨xs, (hl _ ys σ H (Nat.le_refl _) p).2, Nat.le_refl _⟩) (fun i ys σ H hi p x H' y => by obtain ⟨rfl, y⟩ := y; exact turn i ys σ _ x (y xs (hl i ys σ _ (Nat.le_of_lt hi) p).2) p) after
end L2

namespace L2
open PySem PySem.Spec PyProof.Rows
open AutoSeq1 (wpAny_loadPart') in
set_option maxHeartbeats 4000000 in
theorem zaep (k : SK) (l : Addr) (xs : Array Value) :
  Meets (Builtin.«enumerate.__new__» ⟨[.type "enumerate", .ref l], []⟩) (fun _ R s => SIs k s.heap l xs ∧
   R (.ok (.ret (.ref (s.heap.push (itObj k l)).objs.size))) { s with heap := (s.heap.push (itObj k l)).push { cls := .type "enumerate", data := .fields #[.none, .bool false, .ref s.heap.objs.size, rawInt 0, .none, .none] } }) := by
 cases k with
 | list =>
  exact .of_wp fun prog w A R s h => by
   obtain ⟨hp, g, d, tk, os⟩ := s; obtain ⟨hL, h⟩ := h
   have hsub := sub_enumerate
   have hL : Heap.IsList (Shared.heap ⟨hp, g, d, tk, os⟩) l xs := hL
   obtain ⟨ol, hl, hlc, nl, hld⟩ := id hL
   wp_walk using wpAny_loadPart' hl
   refine wpAny_stack_any fun st => wpAny_pure ?_
   split
   ·rename_i c _ _ _ _ _
    cases (c == Value.type "enumerate")
    ·wp_walk using wpAny_loadPart' hl, wpAny_pyIter_list hL
     exact ⟨_, rfl, h⟩
    ·wp_walk using wpAny_loadPart' hl, wpAny_pyIter_list hL
     exact ⟨_, rfl, h⟩
   ·wp_walk using wpAny_loadPart' hl, wpAny_pyIter_list hL
    exact ⟨_, rfl, h⟩
 | tuple =>
  exact .of_wp fun prog w A R s h => by
   obtain ⟨hp, g, d, tk, os⟩ := s; obtain ⟨hL, h⟩ := h
   have hsub := sub_enumerate
   have hL : Heap.IsTuple (Shared.heap ⟨hp, g, d, tk, os⟩) l xs := hL
   obtain ⟨ol, hl, hlc, nl, hld⟩ := id hL
   wp_walk using wpAny_loadPart' hl
   refine wpAny_stack_any fun st => wpAny_pure ?_
   split
   ·rename_i c _ _ _ _ _
    cases (c == Value.type "enumerate")
    ·wp_walk using wpAny_loadPart' hl, wpAny_pyIter_tuple hL
     exact ⟨_, rfl, h⟩
    ·wp_walk using wpAny_loadPart' hl, wpAny_pyIter_tuple hL
     exact ⟨_, rfl, h⟩
   ·wp_walk using wpAny_loadPart' hl, wpAny_pyIter_tuple hL
    exact ⟨_, rfl, h⟩
section
variable {prog : Program} {w : World} {A : Around} {E : Value → Shared → Prop} {s : Shared}
theorem zaim {k : SK} {l : Addr} {xs : Array Value} {Q : Value → Shared → Prop} (hL : SIs k s.heap l xs)
  (h : ∀ h', IsEnum h' (s.heap.objs.size + 1) s.heap.objs.size 0 .none → SIt k h' s.heap.objs.size l 0 → (∀ b o, s.heap.get? b = some o → h'.get? b = some o) → Q (.ref (s.heap.objs.size + 1)) { s with heap := h' }) :
  wpAny (model prog w) A (call (.type "enumerate") [.ref l]) Q E s := by
 refine callType_new F.called_enumerate (by decide) (F.typeCall_enumerate_1 _) (F.newCall_enumerate_1 _) (fun obj => F.args_object_init_2 obj _) F.entry_enumerate_new (zaep k l xs) ⟨hL, ?_⟩
 have hz : (s.heap.push (itObj k l)).objs.size = s.heap.objs.size + 1 := Heap.size_push ..
 have r1 : (itObj k l).isFreed = false := by cases k <;> rfl
 have he := Heap.get?_push_size (s.heap.push (itObj k l)) (o := { cls := .type "enumerate", data := .fields #[.none, .bool false, .ref s.heap.objs.size, rawInt 0, .none, .none] }) rfl
 rw [hz] at he
 show _ ∧ _
 rw [hz]
 exact ⟨⟨_, he, rfl⟩, h _ he (zafi (Heap.get?_push_of_some _ (Heap.get?_push_size _ r1))) fun b o x => Heap.get?_push_of_some _ (Heap.get?_push_of_some _ x)⟩
theorem zain {k : SK} {e it l : Addr} {i : Nat} {items : Array Value} {x old : Value} {Q : Value → Shared → Prop}
  (he : IsEnum s.heap e it i old) (hit : SIt k s.heap it l i) (hl : SIs k s.heap l items) (hx : items[i]? = some x) (hne : e ≠ it)
  (hQ : ∀ h', IsEnumOut h' e it ((i : Int) + 1) x s.heap.objs.size → SIt k h' it l (i + 1) →
   h'.get? s.heap.objs.size = some { cls := .type "tuple", data := .seq #[.int i s.toks, x] } → h'.objs.size = s.heap.objs.size + 1 →
   (∀ b o, b ≠ e → b ≠ it → s.heap.get? b = some o → h'.get? b = some o) → Q (.ref s.heap.objs.size) { s with heap := h', toks := s.toks + 1 }) :
  wpAny (model prog w) A (Builtin.«enumerate.__next__» ⟨[.ref e], []⟩) (fun fin s' => ∃ v, fin = .done (.ret v) ∧ Q v s') E s := by
 obtain ⟨hp, g, d, tk, os⟩ := s
 show wpAny _ _ (field (.ref e) 2 >>= _) _ _ _
 refine wpAny_bind (wpAny_field he rfl (x := .ref it) rfl ?_)
 refine wpAny_bind (zacy hit hl hx fun h₁ hit₁ hs₁ => ?_)
 replace hs₁ : Heap.SameBut it hp h₁ := hs₁
 have he₁ : IsEnum h₁ e it i old := (hs₁.2 e hne).trans he
 show wpAny _ _ (field (.ref e) 3 >>= _) _ _ ⟨h₁, g, d, tk, os⟩
 refine wpAny_bind (wpAny_field he₁ rfl (x := rawInt i) rfl ?_)
 show wpAny _ _ (field (.ref e) 4 >>= _) _ _ ⟨h₁, g, d, tk, os⟩
 refine wpAny_bind (wpAny_field he₁ rfl (x := .none) rfl ?_)
 show wpAny _ _ (mkInt i >>= _) _ _ ⟨h₁, g, d, tk, os⟩
 refine wpAny_bind (wpAny_mkInt ?_)
 show wpAny _ _ (setField (.ref e) 3 (rawInt ((i : Int) + 1)) >>= _) _ _ ⟨h₁, g, d, tk + 1, os⟩
 refine wpAny_bind (wpAny_setField_rec he₁ (by simp) fun h₂ he₂ hs₂ => ?_)
 replace hs₂ : Heap.SameBut e h₁ h₂ := hs₂
 replace he₂ : IsEnum h₂ e it ((i : Int) + 1) old := he₂
 show wpAny _ _ (setField (.ref e) 4 .none >>= _) _ _ ⟨h₂, g, d, tk + 1, os⟩
 refine wpAny_bind (wpAny_setField_rec he₂ (by simp) fun h₃ he₃ hs₃ => ?_)
 replace hs₃ : Heap.SameBut e h₂ h₃ := hs₃
 replace he₃ : IsEnum h₃ e it ((i : Int) + 1) old := he₃
 show wpAny _ _ (newTuple [.int i tk, x] >>= _) _ _ ⟨h₃, g, d, tk + 1, os⟩
 refine wpAny_bind (wpAny_newTuple ?_)
 have he₄ : IsEnum (h₃.push { cls := .type "tuple", data := .seq #[.int i tk, x] }) e it ((i : Int) + 1) old := Heap.get?_push_of_some _ he₃
 generalize hh₄ : h₃.push { cls := .type "tuple", data := .seq #[.int i tk, x] } = h₄ at he₄
 have hsz : h₃.objs.size = hp.objs.size := by rw [hs₃.1, hs₂.1, hs₁.1]
 have hel : e < hp.objs.size := Heap.lt_size he
 have ht₄ : h₄.get? hp.objs.size = some { cls := .type "tuple", data := .seq #[.int i tk, x] } := by rw [← hh₄, ← hsz]; exact Heap.get?_push_size _ rfl
 have hz₄ : h₄.objs.size = hp.objs.size + 1 := by rw [← hh₄, Heap.size_push, hsz]
 have hk₄ : ∀ b o, b ≠ e → b ≠ it → hp.get? b = some o → h₄.get? b = some o := fun b o hbe hbi hb => by
  rw [← hh₄]; exact Heap.get?_push_of_some _ (hs₃.extBut b o hbe (hs₂.extBut b o hbe (hs₁.extBut b o hbi hb)))
 have hit₄ : SIt k h₄ it l (i + 1) := by
  rw [← hh₄]; exact ((hit₁.ext hs₂.extBut (Ne.symm hne)).ext hs₃.extBut (Ne.symm hne)).at fun o ho => Heap.get?_push_of_some _ ho
 show wpAny _ _ (Builtin.SmallTypes.ownedTupleIsFree (.ref e) >>= _) _ _ ⟨h₄, g, d, tk + 1, os⟩
 rw [hsz]
 clear hh₄ he₃ hs₃ he₂ hs₂ he₁ hs₁ hit₁ hsz h₃ h₂ h₁
 refine wpAny_bind ?_
 ·unfold Builtin.SmallTypes.ownedTupleIsFree
  refine wpAny_bind (wpAny_field he₄ rfl (x := .none) rfl (wpAny_pure ?_))
  simp only [if_true]
  refine wpAny_bind (wpAny_rule ?_)
  refine wpAny_bind (wpAny_field he₄ rfl (x := old) rfl ?_)
  refine wpAny_bind (wpAny_setField_rec he₄ (by simp) fun h₅ he₅ hs₅ => ?_)
  replace hs₅ : Heap.SameBut e h₄ h₅ := hs₅
  replace he₅ : IsEnum h₅ e it ((i : Int) + 1) x := he₅
  show wpAny _ _ (Builtin.SmallTypes.ownedTupleHandOut (.ref e) (.ref hp.objs.size) >>= _) _ _ ⟨h₅, g, d, tk + 1, os⟩
  refine wpAny_bind ?_
  ·unfold Builtin.SmallTypes.ownedTupleHandOut
   refine wpAny_bind (wpAny_setField_rec he₅ (by simp) fun h₆ he₆ hs₆ => ?_)
   replace hs₆ : Heap.SameBut e h₅ h₆ := hs₆
   replace he₆ : IsEnumOut h₆ e it ((i : Int) + 1) x hp.objs.size := he₆
   refine wpAny_setField_rec he₆ (by simp) fun h₇ he₇ hs₇ => ?_
   replace hs₇ : Heap.SameBut e h₆ h₇ := hs₇
   replace he₇ : IsEnumOut h₇ e it ((i : Int) + 1) x hp.objs.size := he₇
   refine wpAny_bind (wpAny_letGo (wpAny_pure ⟨_, rfl, hQ h₇ he₇ ?_ ?_ ?_ ?_⟩))
   ·exact ((hit₄.ext hs₅.extBut (Ne.symm hne)).ext hs₆.extBut (Ne.symm hne)).ext hs₇.extBut (Ne.symm hne)
   ·exact hs₇.extBut _ _ (Nat.ne_of_gt hel) (hs₆.extBut _ _ (Nat.ne_of_gt hel) (hs₅.extBut _ _ (Nat.ne_of_gt hel) ht₄))
   ·rw [hs₇.1, hs₆.1, hs₅.1, hz₄]
   ·exact fun b o hbe hbi hb => hs₇.extBut b o hbe (hs₆.extBut b o hbe (hs₅.extBut b o hbe (hk₄ b o hbe hbi hb)))
theorem zadx {k : SK} {e it l : Addr} {i : Nat} {items : Array Value} {x old : Value} {Q : Option Value → Shared → Prop}
  (he : IsEnum s.heap e it i old) (hit : SIt k s.heap it l i) (hl : SIs k s.heap l items) (hx : items[i]? = some x) (hne : e ≠ it)
  (hQ : ∀ h', IsEnumOut h' e it ((i : Int) + 1) x s.heap.objs.size → SIt k h' it l (i + 1) →
   h'.get? s.heap.objs.size = some { cls := .type "tuple", data := .seq #[.int i s.toks, x] } → h'.objs.size = s.heap.objs.size + 1 →
   (∀ b o, b ≠ e → b ≠ it → s.heap.get? b = some o → h'.get? b = some o) → Q (some (.ref s.heap.objs.size)) { s with heap := h', toks := s.toks + 1 }) :
  wpAny (model prog w) A (pyNext (.ref e)) Q E s := by
 have hT : s.TypeIs (.ref e) "enumerate" := ⟨_, he, rfl⟩
 unfold pyNext
 exact wpAny_bind (wpAny_attempt (wpAny_callSpecial?_slot (name := Str.ofString "__next__") hT F.slot_enumerate_next
  (wpAny_call_entry F.slot_enumerate_next hT F.entry_enumerate_next
   (zain he hit hl hx hne fun h' a b c d k => wpAny_pure (hQ h' a b c d k)) (F.args_enumerate_next_1 _))))
theorem zaee {k : SK} {e it l : Addr} {i : Nat} {items : Array Value} {old : Value} {Q : Option Value → Shared → Prop} (hh : A.handled = none)
  (he : IsEnum s.heap e it i old) (hit : SIt k s.heap it l i) (hl : SIs k s.heap l items) (hx : items[i]? = none)
  (hQ : ∀ h', Heap.ExtBut it s.heap h' → Q none { s with heap := h' }) : wpAny (model prog w) A (pyNext (.ref e)) Q E s := by
 have hT : s.TypeIs (.ref e) "enumerate" := ⟨_, he, rfl⟩
 unfold pyNext
 refine wpAny_bind (wpAny_attempt (wpAny_callSpecial?_slot (name := Str.ofString "__next__") hT F.slot_enumerate_next
  (wpAny_call_entry F.slot_enumerate_next hT F.entry_enumerate_next ?_ (F.args_enumerate_next_1 _))))
 show wpAny _ _ (field (.ref e) 2 >>= _) _ _ _
 refine wpAny_bind (wpAny_field he rfl (x := .ref it) rfl ?_)
 refine wpAny_bind (zadu hh hit hl hx fun h' x he' hx' => ?_)
 obtain ⟨o, ho, hc⟩ := hx'
 refine wpAny_bind (wpAny_isInstance (T := "StopIteration") (b := true) ⟨o, ho, hc⟩ isSubtype_stop ?_)
 exact wpAny_pure (hQ _ he')
end
def Itn (K : PySem.W.Frag) (k : SK) (a : Addr) : It :=
 ⟨fun i H => ∃ xs x, Sq k K H a xs ∧ xs[i]? = some x,
  fun i H v H' => ∃ T, H T = none ∧ v = .ref T ∧ ∀ xs, Sq k K H a xs → ∃ x, xs[i]? = some x ∧ H' = upd H T (.tup [.int i, x]),
  fun i H => ∃ xs, Sq k K H a xs ∧ xs.length ≤ i⟩
theorem zajp {P : Program} {w : World} {K : PySem.W.Frag} {elts : List Expr} {kk : Nat} {tpos : Pos} {k : SK} {e it a : Addr} (hne : e ≠ it) :
  Turn P w K (.Tuple elts kk tpos) (Itn K k a) [e, it] e (fun i h => (∃ old, IsEnum h e it i old) ∧ SIt k h it a i) where
 mem := by simp
 obj := fun i h st b hb => by
  obtain ⟨⟨old, he⟩, h1⟩ := st
  simp only [List.mem_cons, List.not_mem_nil, or_false] at hb
  rcases hb with rfl | rfl
  ·exact ⟨_, he, fun v q => nomatch q⟩
  ·exact h1.obj
 keep := fun i h h' st k => by
  obtain ⟨⟨old, he⟩, h1⟩ := st
  exact ⟨⟨old, k _ (by simp) _ he⟩, h1.at fun o e => k _ (by simp) o e⟩
 item := by
  intro X hP hw hK hc i pins s σ H E I hf st hg
  subst hP hw hK
  obtain ⟨⟨old, he⟩, h1⟩ := st
  obtain ⟨xs, x, q1, hx⟩ := hg
  obtain ⟨ix, rx, px⟩ := I.sis q1
  obtain ⟨u, hu, ru⟩ := rx.get hx
  refine zadx he h1 px (x := u) (by simpa using hu) hne fun h' a1 a2 a3 a4 a5 => ?_
  refine ⟨_, rfl, wpAny_letOwnedTupleGo_enum (s := { s with heap := h', toks := s.toks + 1 }) a1 fun h'' b1 b2 => ?_⟩
  have elt : e < s.heap.objs.size := Heap.lt_size he
  have ilt : it < s.heap.objs.size := by obtain ⟨o, ho, _⟩ := h1.obj; exact Heap.lt_size ho
  have k2 : ∀ c o, c ∉ [e, it] → s.heap.get? c = some o → h''.get? c = some o := fun c o hc ec => by
   simp only [List.mem_cons, List.not_mem_nil, or_false, not_or] at hc
   exact b2.extBut _ _ hc.1 (a5 c o hc.1 hc.2 ec)
  have hT2 : h''.get? s.heap.objs.size = some { cls := .type "tuple", data := .seq #[.int i s.toks, u] } := b2.extBut _ _ (Nat.ne_of_gt elt) a3
  refine ⟨.ref s.heap.objs.size, upd H s.heap.objs.size (.tup [.int i, x]), I.turnedNew (t' := s.toks + 1) (o := .tup [.int i, x]) k2 hf (Nat.le_refl _)
   ⟨by show 2 ≤ sizeLine; decide, [.int i s.toks, u], .cons ⟨_, rfl⟩ (.cons ru .nil), ⟨_, hT2, rfl, _, rfl⟩⟩, rfl,
   ⟨_, I.hok.fresh (Nat.le_refl _), rfl, fun xs' e1 => ?_⟩, ⟨⟨u, by simpa using b1⟩, a2.at fun o eo => b2.extBut _ _ (Ne.symm hne) eo⟩, fun b hb => ?_⟩
  ·rw [I.sq_inj e1 q1]
   exact ⟨x, hx, rfl⟩
  ·have blt : b < s.heap.objs.size := by
    simp only [List.mem_cons, List.not_mem_nil, or_false] at hb
    rcases hb with rfl | rfl
    ·exact elt
    ·exact ilt
   rw [zaax (Nat.ne_of_lt blt)]
   exact (hf b hb).1
 done := by
  intro X hP hw hK hc i pins s σ H E I hf st hg
  subst hP hw hK
  obtain ⟨⟨old, he⟩, h1⟩ := st
  obtain ⟨xs, q1, hl⟩ := hg
  obtain ⟨ix, rx, px⟩ := I.sis q1
  have l1 := rx.length
  refine zaee (I.ok.hd hc) he h1 px (by simp; omega) fun h' hk => ⟨rfl, I.turnedL (t' := s.toks) (its := [e, it]) (fun b o hb eb => ?_) hf⟩
  simp only [List.mem_cons, List.not_mem_nil, or_false, not_or] at hb
  exact hk b o hb.2 eb
 self := fun _ _ _ _ _ st h => by
  obtain ⟨⟨old, he⟩, _⟩ := st
  exact wpAny_pyIter_enum he h
section
variable {X : Cx} {elts : List Expr} {kk : Nat} {tpos : Pos}
def iEnum (K : PySem.W.Frag) (k : SK) (ta : TA) : TI := fun σ H R => ta σ H fun vs H1 => ∃ a, vs = [.ref a] ∧ (∃ xs, Sq k K H1 a xs) ∧ R (Itn K k a) H1
theorem zana (k : SK) {a : Expr} {ta : TA} {p pos : Pos} (hg : Gl X "enumerate") (hm : X.mg "enumerate" = none) (ha : PA X [a] ta) (hs : starEach [a] X.env = [(false, eval a X.env)] := by rfl) :
  PI X (.Tuple elts kk tpos) (.Call (.Name "enumerate" p) [a] [] pos) (iEnum X.K k ta) := by
 intro pins s σ H R I h
 refine Call_ (zaea I hg hm PyProof.Rows.Boot.«enumerate» (PyProof.Rows.callWith_type1 (thn (ha pos pins s σ H _ I h) fun us s1 ⟨vs, H1, I1, r1, q1⟩ => ?_) hs rfl))
 obtain ⟨a', e, ⟨xs, qx⟩, q⟩ := q1
 subst e
 cases r1 with
 | cons r rr =>
  cases rr
  cases r
  obtain ⟨ix, rx, px⟩ := I1.sis qx
  refine zaim px fun h' b1 b2 b3 => wpAny_pyIter_enum (s := { s1 with heap := h' }) b1 ?_
  have nn : ∀ b, s1.heap.objs.size ≤ b → FpOk X pins H1 b := fun b hb => I1.fpOk hb (I1.hok.fresh hb)
  refine ⟨_, [s1.heap.objs.size + 1, s1.heap.objs.size], _, _, H1, rfl, I1.kept (t' := s1.toks) b3, zajp (k := k) (Nat.ne_of_gt (Nat.lt_succ_self _)), ⟨⟨_, b1⟩, b2⟩, fun b hb => ?_, q⟩
  simp only [List.mem_cons, List.not_mem_nil, or_false] at hb
  rcases hb with rfl | rfl
  ·exact nn _ (Nat.le_succ _)
  ·exact nn _ (Nat.le_refl _)
end
theorem zajq {K : PySem.W.Frag} {k : SK} {a : Addr} {xs : List V} {g : TG} {tb : TS} {D : Ends} {σ : St} {H : Hp} (Pv : Nat → St → Hp → Prop) (h0 : Pv 0 σ H)
  (hl : ∀ i σ H, i ≤ xs.length → Pv i σ H → Sq k K H a xs)
  (hs : ∀ i x σ H T, xs[i]? = some x → Pv i σ H → H T = none → g (.ref T) σ (upd H T (.tup [.int i, x])) fun σ2 H2 => tb { D with nx := Pv (i + 1), ct := Pv (i + 1), bk := D.nx } σ2 H2)
  (hd : ∀ σ H, Pv xs.length σ H → D.nx σ H) : Loop (Itn K k a) g tb D σ H := by
 refine ⟨fun i m σ H => m = xs.length - i ∧ i ≤ xs.length ∧ Pv i σ H, ⟨xs.length, by simp, Nat.zero_le _, h0⟩, ?_⟩
 rintro i m σ H ⟨rfl, hi, p⟩
 have q1 := hl i σ H hi p
 by_cases hlt : i < xs.length
 ·refine .inr ⟨⟨xs, xs[i], q1, by simp [hlt]⟩, Pv (i + 1), fun σ' H' p' => ⟨xs.length - (i + 1), by omega, rfl, hlt, p'⟩, fun x H' y => ?_⟩
  obtain ⟨T, hT, rfl, y⟩ := y
  obtain ⟨u, e1, rfl⟩ := y xs q1
  exact hs i u σ H T e1 p hT
 ·have e : i = xs.length := by omega
  refine .inl ⟨⟨xs, q1, by omega⟩, ?_⟩
  subst e
  exact hd σ H p
theorem zadm {K : PySem.W.Frag} {k : SK} {a : Addr} (xs : List V) {g : TG} {tt : TT} {te : TE} {Q : List V → Hp → Prop} {σ : St} {H : Hp} (Pv : Nat → List V → St → Hp → Prop) (hn : xs.length < sizeLine) (h0 : Pv 0 [] σ H) (hl : ∀ i ys σ H, i ≤ xs.length → Pv i ys σ H → ys.length ≤ i ∧ Sq k K H a xs)
  (turn : ∀ i ys σ H x T, xs[i]? = some x → Pv i ys σ H → H T = none → g (.ref T) σ (upd H T (.tup [.int i, x])) fun σ2 H2 => tt σ2 H2 fun b H3 => if b = true then te σ2 H3 fun y H4 => Pv (i + 1) (ys ++ [y]) σ2 H4 else Pv (i + 1) ys σ2 H3)
  (after : ∀ ys σ H, Pv xs.length ys σ H → Q ys H) : Comp (Itn K k a) g tt te Q σ H :=
 zafn xs.length Pv h0 (fun i ys σ H hi p => Nat.lt_of_le_of_lt (Nat.le_trans (hl i ys σ H hi p).1 hi) hn) (fun i ys σ H hi p => ⟨xs, xs[i], (hl i ys σ H (Nat.le_of_lt hi) p).2, List.getElem?_eq_getElem hi⟩)
  (fun ys σ H p => ⟨xs, (hl _ ys σ H (Nat.le_refl _) p).2, Nat.le_refl _⟩) (fun i ys σ H hi p x H' y => by
   obtain ⟨T, hT, rfl, y⟩ := y
   obtain ⟨u, e1, rfl⟩ := y xs (hl i ys σ _ (Nat.le_of_lt hi) p).2
   exact turn i ys σ _ u T e1 p hT) after
theorem zahz {K : PySem.W.Frag} {k1 k2 : SK} {a b : Addr} (xs zs : List V) {g : TG} {tt : TT} {te : TE} {Q : List V → Hp → Prop} {σ : St} {H : Hp} (Pv : Nat → List V → St → Hp → Prop) (hn : xs.length < sizeLine) (hz : xs.length = zs.length) (h0 : Pv 0 [] σ H) (hl : ∀ i ys σ H, i ≤ xs.length → Pv i ys σ H → ys.length ≤ i ∧ Sq k1 K H a xs ∧ Sq k2 K H b zs)
  (turn : ∀ i ys σ H x z T, xs[i]? = some x → zs[i]? = some z → Pv i ys σ H → H T = none → g (.ref T) σ (upd H T (.tup [x, z])) fun σ2 H2 => tt σ2 H2 fun b H3 => if b = true then te σ2 H3 fun y H4 => Pv (i + 1) (ys ++ [y]) σ2 H4 else Pv (i + 1) ys σ2 H3)
  (after : ∀ ys σ H, Pv xs.length ys σ H → Q ys H) : Comp (Itz K k1 k2 a b) g tt te Q σ H :=
 zafn xs.length Pv h0 (fun i ys σ H hi p => Nat.lt_of_le_of_lt (Nat.le_trans (hl i ys σ H hi p).1 hi) hn)
  (fun i ys σ H hi p => ⟨xs, zs, xs[i], zs[i]'(hz ▸ hi), (hl i ys σ H (Nat.le_of_lt hi) p).2.1, (hl i ys σ H (Nat.le_of_lt hi) p).2.2, List.getElem?_eq_getElem hi, List.getElem?_eq_getElem (hz ▸ hi)⟩)
  (fun ys σ H p => ⟨xs, zs, (hl _ ys σ H (Nat.le_refl _) p).2.1, (hl _ ys σ H (Nat.le_refl _) p).2.2, .inl (Nat.le_refl _)⟩) (fun i ys σ H hi p x H' y => by
   obtain ⟨T, hT, rfl, y⟩ := y
   obtain ⟨u, v, e1, e2, rfl⟩ := y xs zs (hl i ys σ _ (Nat.le_of_lt hi) p).2.1 (hl i ys σ _ (Nat.le_of_lt hi) p).2.2
   exact turn i ys σ _ u v T e1 e2 p hT) after
end L2

namespace L2
open PySem PySem.Spec PyProof.Rows
section
variable {prog : Program} {w : World} {A : Around} {E : Value → Shared → Prop} {s : Shared}
end
section
variable {prog : Program} {w : World} {K : Type} [DecidableEq K] {knd : KeyKind prog w K} {A : Around} {R : Result → Shared → Prop}
end
section
variable {prog : Program} {w : World} {K : Type} [DecidableEq K] {knd : KeyKind prog w K} {A : Around} {E : Value → Shared → Prop} {s : Shared}
end
end L2

namespace L2
open PySem PySem.Spec PyProof.Rows
abbrev IsZipK (h : Heap) (z TI TO : Addr) (T : Addr) (f1 : Bool) : Prop :=
 h.get? z = some { cls := .type "zip", dict := none, data := .fields #[rawInt T, .bool f1, .bool false, .ref TI, .ref TO], slots := #[] }
section
variable {prog : Program} {w : World} {A : Around} {E : Value → Shared → Prop} {s : Shared}
end
def PairsAt (h : Heap) (us : List Value) (xs ys : List Value) : Prop := us.length ≤ xs.length ∧ us.length ≤ ys.length ∧ ∀ (j : Nat) (u : Value), us[j]? = some u → ∃ (t : Addr) (x y : Value), u = .ref t ∧ xs[j]? = some x ∧ ys[j]? = some y ∧ IsPair h t x y
section
variable {prog : Program} {w : World} {A : Around} {R : Result → Shared → Prop}
end
section
variable {prog : Program} {w : World} {A : Around} {E : Value → Shared → Prop} {s : Shared}
end
end L2

namespace L2
open PySem PySem.Spec PyProof.Rows
section
variable {X : Cx} {pins : List (Addr × Obj)} {σ : List (Option V)} {H H' : Hp} {s : Shared} {h' : Heap}
end
theorem ObjOk.has {P : Program} {w : World} {H : Hp} {h : Heap} {a : Addr} : ∀ {o : HO}, ObjOk P w H h a o → ∃ ob, h.get? a = some ob
 | .lst _, ⟨_, _, _, _, e⟩ => ⟨_, e⟩
 | .tup _, ⟨_, _, _, o, e, _⟩ => ⟨o, e⟩
 | .dK _, ⟨_, _, _, _, o, _, _, e, _⟩ => ⟨o, e⟩
 | .dT _, ⟨_, _, _, _, o, _, _, e, _⟩ => ⟨o, e⟩
 | .set _ _, ⟨o, _, _, _, e, _⟩ => ⟨o, e⟩
 | .ins _ _ _, ⟨_, _, _, e, _⟩ => ⟨_, e⟩
 | .own _, x => x
 | .xd _, ⟨_, ⟨o, _, _, e, _⟩, _⟩ => ⟨o, e⟩
 | .rng _ _, ⟨_, _, _, e⟩ => ⟨_, e⟩
 | .frz _ _, ⟨e, _⟩ => ⟨_, e⟩
 | .tbl _, e => ⟨_, e⟩
 | .met _ _, e => ⟨_, e⟩
 | .ext _, ⟨_, e, _⟩ => e
theorem HOk.has {P : Program} {w : World} {H : Hp} {h : Heap} {a : Addr} {o : HO} (x : HOk P w H h) (e : H a = some o) : ∃ ob, h.get? a = some ob := (x a o e).has
section
variable {X : Cx}
def tLZ (K : PySem.W.Frag) (k1 k2 : SK) (ta : TA) : TE := fun σ H Q => ta σ H fun vs H1 => ∃ a b xs ys, vs = [.ref a, .ref b] ∧ Sq k1 K H1 a xs ∧ Sq k2 K H1 b ys ∧ xs.length = ys.length ∧ xs.length ≤ sizeLine ∧
 ∀ (p : Addr) (ts : List Addr) (H' : Hp), Ch [] H1 H' → H1 p = none → H' p = some (.lst (ts.map V.ref)) → ts.length = xs.length →
  (∀ (i : Nat) (t : Addr) (x y : V), ts[i]? = some t → xs[i]? = some x → ys[i]? = some y → H' t = some (.tup [x, y])) → Q (.ref p) H'
def adr : Value → Addr
 | .ref a => a
 | _ => 0
theorem zag5 {prog : Program} {w : World} {A : Around} {bs : List Bool} : TruthOf prog w A (fun i v => (bs.map fun b => Value.bool b).toArray[i]? = some v) (fun i => bs.getD i false) := by
 intro i v s Q E hP hQ
 have hP' : (bs.map fun b => Value.bool b)[i]? = some v := by simpa using hP
 rw [List.getElem?_map] at hP'
 cases e : bs[i]? with
 | none => rw [e] at hP'; cases hP'
 | some b =>
  rw [e] at hP'
  cases hP'
  have : bs.getD i false = b := by rw [List.getD_eq_getElem?_getD, e]; rfl
  have hQ : Q (bs.getD i false) s := hQ
  rw [this] at hQ
  exact wpAny_pure hQ
theorem zajr (bs : List Bool) : ((List.range bs.length).all fun i => bs.getD i false) = bs.all id := by
 rw [Bool.eq_iff_iff, List.all_eq_true, List.all_eq_true]
 constructor
 ·intro h b hb
  obtain ⟨i, hi, rfl⟩ := List.mem_iff_getElem.mp hb
  have := h i (List.mem_range.mpr hi)
  rw [List.getD_eq_getElem?_getD, List.getElem?_eq_getElem hi] at this
  exact this
 ·intro h i hi
  have hi := List.mem_range.mp hi
  rw [List.getD_eq_getElem?_getD, List.getElem?_eq_getElem hi]
  exact h _ (List.getElem_mem hi)
theorem zae8 : ∀ {bs : List Bool} {its : List Value}, Vals (bs.map V.bl) its → its = bs.map fun b => Value.bool b
 | [], _, .nil => rfl
 | b :: bs, _, .cons r t => by rw [List.map_cons, zae8 t]; cases r; rfl
theorem zac0 (hc : X.calm = true) : CallR X (.builtin "all") (fun xs H Q => ∃ (p : Addr) (bs : List Bool), xs = [.ref p] ∧ H p = some (.lst (bs.map V.bl)) ∧ Q (.bl (bs.all id)) H) := by
 intro pins s σ H xs us Q I r h
 obtain ⟨p, bs, rfl, hp, q⟩ := h
 obtain ⟨u, rfl, ru⟩ := vals1 r
 cases ru
 obtain ⟨z, its, n, rv, e⟩ := I.hok p _ hp
 have ei := zae8 rv
 subst ei
 have hl : s.heap.IsList p (bs.map fun b => Value.bool b).toArray := ⟨_, e, rfl, n, rfl⟩
 refine call_all_walk (wpAny_pyIter_list hl ?_)
 have hne : p ≠ s.heap.objs.size := Nat.ne_of_lt (Heap.lt_size e)
 refine ⟨s.heap.objs.size, _, _, _, _, _, _, rfl, Walks.list (by first | exact I.ok.hd hc | (show X.A.in1.handled = none; exact I.ok.hd hc)) s.heap.objs.size p hne (bs.map fun b => Value.bool b).toArray,
  ⟨⟨_, Heap.get?_push_size _ rfl, rfl, rfl⟩, ⟨_, Heap.get?_push_of_some _ e, rfl, n, rfl⟩⟩, zag5, fun h' tk hk => ?_⟩
 have sz : (bs.map fun b => Value.bool b).toArray.size = bs.length := by simp
 rw [sz, zajr]
 exact ⟨.bl (bs.all id), H, I.kept (t' := tk) fun b o eb => hk b o (by simp; exact Nat.ne_of_lt (Heap.lt_size eb)) (Heap.get?_push_of_some _ eb), rfl, q⟩
end
end L2

namespace L2
open PySem PySem.Spec PyProof.Rows
section
variable {X : Cx} {pins : List (Addr × Obj)} {σ : St} {H : Hp} {s : Shared} {A : Around} {E : Value → Shared → Prop} {Q : Value → Shared → Prop} {b : Bool}
end
def rIsTs (K : PySem.W.Frag) : List V → Hp → VK → Prop := fun xs H Q => ∃ (x : V) (p : Addr) (Ts : List String) (t : Value) (b : Bool), xs = [x, .ref p] ∧ H p = some (.tup (Ts.map V.ty)) ∧ TyOf K H x t ∧ PySem.W.kitAny K t (Ts.map Value.type) = some b ∧ Q (.bl b) H
example (K : PySem.W.Frag) : PySem.W.kitAny K (.type "list") [.type "list", .type "tuple"] = some true := rfl
example (K : PySem.W.Frag) : PySem.W.kitAny K (.type "tuple") [.type "list", .type "tuple"] = some true := rfl
example (K : PySem.W.Frag) : PySem.W.kitAny K (.type "int") [.type "list", .type "tuple"] = some false := rfl
end L2

namespace L2
open PySem PySem.Spec PyProof.Rows
structure MethOk (P : Program) (w : World) (K : PySem.W.Frag) (mg : Str → Option Value) (base : Heap) (CX : CXT) (k : Nat) (C : Addr) (m : Str) (ps : List Str) (sp : Sp) : Prop where
 cl : Cls K C
 ex : ∃ (f : Addr) (fd : FuncData), FnOk P w K mg base CX k f fd ps sp ∧ Binds K fd ps [] ∧ Meth K C m f
structure MakeOk (P : Program) (w : World) (K : PySem.W.Frag) (mg : Str → Option Value) (base : Heap) (CX : CXT) (k : Nat) (C : Addr) (x : Str) (ps : List Str) (sp : Sp) : Prop where
 ex : ∃ (f : Addr) (fd : FuncData), FnOk P w K mg base CX k f fd ps sp ∧ Binds K fd ps [] ∧ Mk K C f ∧ mg x = some (.ref C)
theorem MakeOk.mono {P : Program} {w : World} {K : PySem.W.Frag} {mg : Str → Option Value} {base : Heap} {CX : CXT} {j k : Nat} {C : Addr} {x : Str} {ps : List Str} {sp : Sp} (D : MakeOk P w K mg base CX j C x ps sp) (h : j ≤ k) : MakeOk P w K mg base CX k C x ps sp := by
 obtain ⟨f, fd, F, b⟩ := D.ex
 exact ⟨f, fd, F.mono h, b⟩
section
variable {X : Cx} {CX : CXT} {k : Nat} {C : Addr} {ps : List Str} {sp : Sp} {E : XK} {x m : Str} {p pos apos : Pos} {e o : Expr} {es : List Expr} {ta : TE} {t : TA}
theorem zagp (D : MakeOk X.prog X.w X.K X.mg X.base CX k C x ps sp) (hr : Room (k + 1) X.A) (hg : Gl X x) (hx : Passes CX X E)
  (ha : Pr (PA X (e :: es) t)) (hdb : (x == ("__debug__" : Str)) = false := by decide) (he : starEach (e :: es) X.env = (false, eval e X.env) :: starEach es X.env := by rfl) (hpl : (backTo pos (starEach es X.env)).any (·.1) = false := by rfl) :
  Pr (PE X (.Call (.Name x p) (e :: es) [] pos) (tMake C sp [] E t)) := by
 obtain ⟨f, fd, F, b, M, hm⟩ := D.ex
 exact ⟨zamr M F hr hg hm b .nil hx ha.h hdb he hpl⟩
end
section
variable {X : Cx} {sc : Scope} {own : List Str} {fr : List Nat} {N' : List Str} {tg elt iter : Expr} {ifs : List Expr} {g : TG} {tt : TT} {te : TE} {wi : TI} {pos : Pos}
theorem zac1 : Pr (PIf X [] tYes) := ⟨zam6⟩
theorem zadn {c : Expr} {t : TT} (h : Pr (PT X c t)) : Pr (PIf X [c] t) := ⟨zam7 h.h⟩
theorem zacp (hc : X.calm = true) (cs : CompOk sc X.env.scope own X.N fr N') (hi : Pr (PI X tg iter wi)) (hg : ∀ cl C s H fp, Pr (PG (cxC X sc cl N' C s H fp) tg g)) (hif : ∀ cl C s H fp, Pr (PIf (cxC X sc cl N' C s H fp) ifs tt))
  (he : ∀ cl C s H fp, Pr (PE (cxC X sc cl N' C s H fp) elt te)) (hs : ∀ x, foldedSetIterable iter X.env x = pure x := by intro _; rfl) : Pr (PE X (.ListComp elt [⟨tg, iter, ifs, 0⟩] sc pos) (tComp own.length fr wi g tt te)) :=
 ⟨zam8 hc cs hi.h (fun a b c d e => (hg a b c d e).h) (fun a b c d e => (hif a b c d e).h) (fun a b c d e => (he a b c d e).h) hs⟩
theorem zah0 {i : Nat} {y : Str} {py spos : Pos} (hN : X.N.Nodup) (hy : X.N[i]? = some y) (hx : Loc X.env.scope y) (hc : X.calm = true) (cs : CompOk sc X.env.scope own X.N fr N') (hi : Pr (PI X tg iter wi))
  (hg : ∀ cl C s H fp, Pr (PG (cxC X sc cl N' C s H fp) tg g)) (hif : ∀ cl C s H fp, Pr (PIf (cxC X sc cl N' C s H fp) ifs tt)) (he : ∀ cl C s H fp, Pr (PE (cxC X sc cl N' C s H fp) elt te))
  (hsw : swapsWith (.ListComp elt [⟨tg, iter, ifs, 0⟩] sc pos) (some (.Name y py)) spos.line X.env = pure true) (hfn : X.fn y = true ∨ X.env.scope.names.lookup y = some .local := by first | exact .inl rfl | exact .inr rfl | assumption) (hs : ∀ x, foldedSetIterable iter X.env x = pure x := by intro _; rfl) :
  Pr (PS X (.Assign [.Name y py] (.ListComp elt [⟨tg, iter, ifs, 0⟩] sc pos) spos) (tSetC i own.length fr wi g tt te)) :=
 ⟨zam9 hN hy hx hc cs hi.h (fun a b c d e => (hg a b c d e).h) (fun a b c d e => (hif a b c d e).h) (fun a b c d e => (he a b c d e).h) hsw hfn hs⟩
theorem zado (k : SK) {elts : List Expr} {kk : Nat} {tpos : Pos} {a : Expr} {ta : TA} {p pos : Pos} (hg : Gl X "enumerate") (hm : X.mg "enumerate" = none) (ha : Pr (PA X [a] ta)) (hs : starEach [a] X.env = [(false, eval a X.env)] := by rfl) :
  Pr (PI X (.Tuple elts kk tpos) (.Call (.Name "enumerate" p) [a] [] pos) (iEnum X.K k ta)) := ⟨zana k hg hm ha.h hs⟩
theorem zalb : Pr (PPs X pos [] [] []) := ⟨zam0⟩
theorem zadp {k v : Expr} {ks : List (Option Expr)} {vs : List Expr} {tk tv : TE} {trs : List (TE × TE)} (hk : Pr (PE X k tk)) (hv : Pr (PE X v tv)) (hr : Pr (PPs X pos ks vs trs)) : Pr (PPs X pos (some k :: ks) (v :: vs) ((tk, tv) :: trs)) := ⟨zak3 hk.h hv.h hr.h⟩
theorem zalc {keys : List (Option Expr)} {values : List Expr} {trs : List (TE × TE)} (h : Pr (PPs X pos keys values trs)) (hall : keys.all (·.isSome) = true) (hl : keys.length = values.length) (h0 : keys ≠ [])
  (h15 : keys.length ≤ 15) : Pr (PE X (.Dict keys values pos) (tDisp trs)) := ⟨zam1 h.h hall hl h0 h15⟩
theorem zajs {o e f : Expr} {td ty tx : TE} {apos cpos : Pos} (hu : X.A.units + 1 < cLine) (ho : Pr (PE X o td)) (he : Pr (PE X e ty)) (hf : Pr (PE X f tx)) (m : M2 X o "get" apos e f cpos) : Pr (PE X (.Call (.Attribute o "get" apos) [e, f] [] cpos) (tDGet2 td ty tx)) := ⟨zak4 hu ho.h he.h hf.h m⟩
theorem compOk {sc outer : Scope} {own N : List Str} {fr : List Nat} {N' : List Str} (h1 : sc.kind = .function) (h2 : ∀ y ∈ sc.names, y.2 ≠ .cell) (h3 : ∀ y ∈ sc.names, y.2 = .local → sc.names.lookup y.1 = some .local)
  (h4 : ∀ y ∈ sc.names, y.2 = .free → outer.names.lookup y.1 = some .cell ∨ outer.names.lookup y.1 = some .free) (h5 : N'.Nodup) (h6 : N'.map some = own.map some ++ fr.map fun j => N[j]?)
  (h7 : ∀ x ∈ fr.filterMap (fun j => N[j]?), sc.names.lookup x = some .free ∧ (outer.names.lookup x = some .cell ∨ outer.names.lookup x = some .free)) : CompOk sc outer own N fr N' :=
 ⟨h1, h2, h3, h4, h5, h6, fun j hj x hx => h7 x (List.mem_filterMap.mpr ⟨j, hj, hx⟩)⟩
end
def rIsT2 (K : PySem.W.Frag) : List V → Hp → VK → Prop := fun xs H Q => ∃ (x : V) (p : Addr) (T1 T2 : String) (t : Value) (b : Bool), xs = [x, .ref p] ∧ H p = some (.tup [.ty T1, .ty T2]) ∧ TyOf K H x t ∧ PySem.W.kitAny K t [.type T1, .type T2] = some b ∧ Q (.bl b) H
theorem iteNn {c : Prop} [Decidable c] {A B : Prop} (hc : c) (h : B) : if (!decide c) = true then A else B := by rw [if_neg (by simp [hc])]; exact h
def Tu (H H' : Hp) : Prop := ∀ b xs, H b = some (.tup xs) → H' b = some (.tup xs)
theorem Tu.same {H H' : Hp} (c : Ch [] H H') : Tu H H' := fun b xs h => c b _ h (by simp)
theorem Tu.ch {H H' : Hp} {b : Addr} {o : HO} (c : Ch [b] H H') (hb : H b = some o) (ho : ∀ xs, o ≠ .tup xs) : Tu H H' := fun d xs h => c d _ h (by
 intro z
 have e : d = b := by simpa using z
 subst e
 rw [hb] at h
 exact ho xs (Option.some.inj h))
theorem Tu.lst {H H' : Hp} {b : Addr} {ys : List V} (c : Ch [b] H H') (hb : H b = some (.lst ys)) : Tu H H' := Tu.ch c hb (fun xs z => by cases z)
end L2

namespace L2
open PySem PySem.Spec PyProof.Rows
section
variable {X : Cx} {a b o e value : Expr} {es : List Expr} {f : Str} {ta tb te : TE} {pos : Pos} {tg l : Expr}
theorem zacx (K : PySem.W.Frag) (hK : X.K = K) : IxR X (aIxL K) := hK ▸ zaba
theorem zadb (K : PySem.W.Frag) (hK : X.K = K) : IxR X (aIxT K) := hK ▸ zabf
theorem zady (K : PySem.W.Frag) (hK : X.K = K) : OpR X (compareOp .In) (rIn K false) := hK ▸ zaje
theorem zajt (K : PySem.W.Frag) (hK : X.K = K) {tl : TE} (hl : Pr (PE X l tl)) : Pr (PI X tg l (iList K tl)) := hK ▸ ⟨zaiz hl.h⟩
theorem zald (K : PySem.W.Frag) (hK : X.K = K) {tl : TE} (hl : Pr (PE X l tl)) : Pr (PI X tg l (iTup K tl)) := hK ▸ ⟨zal1 hl.h⟩
theorem zac2 (K : PySem.W.Frag) (n : Nat) (hK : X.K = K) {k : Nat} {t : TGs} (hc : X.calm = true) (h : Pr (PGs X es t)) (hn : (assignEach es X.env).length = n := by rfl) (hst : (assignEach es X.env).findIdx? (·.1) = none := by rfl) :
  Pr (PG X (.Tuple es k pos) (gTup K n t)) := hK ▸ ⟨zal0 hc h.h hn hst⟩
end
end L2

namespace L2
open PySem PySem.Spec PyProof.Rows
theorem zaju (f : Array Value → Array Value) (o : Obj) : (o.mapFields f).dict = o.dict := by
 obtain ⟨_, _, d, _⟩ := o
 cases d <;> rfl
structure Fl (h : Heap) (e C : Addr) (dx : Option Addr) (T : Addr) (fl : Value) : Prop where
 ob : ∃ oe vs, h.get? e = some oe ∧ (oe.cls = .ref C ∧ oe.dict = dx) ∧ oe.data = .fields vs ∧ vs[1]? = some (.ref T) ∧ vs[2]? = some .none
 tb : ∃ oT ts, h.get? T = some oT ∧ oT.data = .fields ts ∧ ts[3]? = some fl
 ne : T ≠ e
def KB (ex fs : List Addr) (h h' : Heap) : Prop := ∀ b o, h.get? b = some o → b ∉ ex → (b ∉ fs → h'.get? b = some o) ∧ ∃ sl, h'.get? b = some { o with slots := sl }
theorem KB.trans {ex ex' fs : List Addr} {h h1 h2 : Heap} (a : KB ex fs h h1) (b : KB ex' fs h1 h2) : KB (ex ++ ex') fs h h2 := fun c o e n => by
 simp only [List.mem_append, not_or] at n
 obtain ⟨k1, sl, k2⟩ := a c o e n.1
 refine ⟨fun hf => (b c o (k1 hf) n.2).1 hf, ?_⟩
 obtain ⟨_, sl', k3⟩ := b c _ k2 n.2
 exact ⟨sl', k3⟩
section
variable {M : Model} {A : Around} {E : Value → Shared → Prop} {s : Shared} {base : Heap} {env : Env} {outer : List Env} {L e C T : Addr} {dx : Option Addr} {Q : Unit → Shared → Prop}
theorem zah1 {oe : Obj} {vs : Array Value} {head : Value} {hn : Bool} (hfr : A.frames = some (env :: outer)) (hl : s.heap.FunFrames base (env :: outer)) (hf : env.frame = some L)
  (ge : s.heap.get? e = some oe) (gc : oe.cls = .ref C ∧ oe.dict = dx) (gd : oe.data = .fields vs) (g1 : 1 < vs.size) (g2 : vs[2]? = some .none)
  (k : ∀ h' T, KB [e] (frs (env :: outer)) s.heap h' → Fl h' e C dx T (rawInt L) → s.heap.get? T = none → Q () { s with heap := h' }) :
  wpAny M A (do
   let fo ← frameOf env
   let pl ← entryPlaceOf L hn
   let en ← EntryCells.newEntry head fo .none (rawInt L) .none pl
   setField (.ref e) 1 en) Q E s := by
 have nf : e ∉ frs (env :: outer) := fun z => by
  obtain ⟨_, o, ho, no⟩ := hl.mem z
  rw [ge] at ho
  cases ho
  exact no vs gd
 refine wpAny_bind (wpAny_frameOf_fun hfr hl hf fun ha so => ?_)
 refine wpAny_bind (wpAny_entryPlaceOf fun pl ip => ?_)
 unfold EntryCells.newEntry newFields
 refine wpAny_bind (wpAny_newObj_type ?_ (ip.sizeOk5 _ _ _ _ _))
 have ea : ha.get? e = some oe := by rw [so.2.1 e nf]; exact ge
 have neT : ha.objs.size ≠ e := Nat.ne_of_gt (Heap.lt_size ea)
 refine wpAny_setField (Heap.get?_push_of_some _ ea) gd g1 (k _ ha.objs.size (fun b o hb hbe => ?_) ⟨⟨_, _, Heap.get?_update_self _ (Heap.get?_push_of_some _ ea) (Obj.isFreed_of_fields (Obj.data_mapFields gd _)), ?_, Obj.data_mapFields gd _, ?_, ?_⟩, ?_, neT⟩ ?_)
 ·have n1 : e ≠ b := fun z => hbe (by simp [z])
  obtain ⟨sl, q⟩ := so.2.2 b o hb
  refine ⟨fun nb => ?_, sl, ?_⟩
  ·rw [Heap.get?_update_other _ _ n1]
   refine Heap.get?_push_of_some _ ?_
   rw [so.2.1 b nb]
   exact hb
  ·rw [Heap.get?_update_other _ _ n1]
   exact Heap.get?_push_of_some _ q
 ·rw [Obj.cls_mapFields, zaju]; exact gc
 ·simp [g1]
 ·rw [Array.getElem?_setIfInBounds_ne (by decide)]; exact g2
 ·have q := (Heap.get?_update_other (ha.push { cls := .type "traceback", dict := none, data := .fields ([head, .ref L, .none, rawInt L, .none] ++ (if pl.isEmpty then List.replicate 6 Value.none else pl)).toArray }) (Obj.mapFields (·.setIfInBounds 1 (Value.ref ha.objs.size))) (Ne.symm neT)).trans (Heap.get?_push_size ha rfl)
  refine ⟨_, _, q, rfl, ?_⟩
  rcases ip with rfl | ⟨_, _, _, _, _, _, _, rfl⟩ <;> simp
 ·exact Heap.get?_none_of_le (by rw [so.1]; exact Nat.le_refl _)
theorem zag6 {fl : Value} (f : Fl s.heap e C dx T fl) (k : ∀ h', KB [T] [] s.heap h' → Fl h' e C dx T .none → Q () { s with heap := h' }) : wpAny M A (setFlight (.ref e) none) Q E s := by
 obtain ⟨⟨oe, vs, a1, a2, a3, a4, a5⟩, ⟨oT, ts, b1, b2, b3⟩, nT⟩ := f
 have sz : 3 < ts.size := (Array.getElem?_eq_some_iff.mp b3).1
 unfold setFlight
 refine wpAny_bind (wpAny_field a1 a3 a4 ?_)
 rw [if_pos (by simp : (Value.ref T != Value.none) = true)]
 refine wpAny_setField b1 b2 sz (k _ (fun b o hb nb => ?_) ⟨⟨oe, vs, ?_, a2, a3, a4, a5⟩, ⟨_, _, Heap.get?_update_self _ b1 (Obj.isFreed_of_fields (Obj.data_mapFields b2 _)), Obj.data_mapFields b2 _, ?_⟩, nT⟩)
 ·have n1 : T ≠ b := fun z => nb (by simp [z])
  rw [Heap.get?_update_other _ _ n1]
  exact ⟨fun _ => hb, o.slots, hb⟩
 ·rw [Heap.get?_update_other _ _ nT]
  exact a1
 ·simp [sz]
theorem zale {oe : Obj} {vs : Array Value} (hfr : A.frames = some (env :: outer)) (hl : s.heap.FunFrames base (env :: outer)) (hf : env.frame = some L)
  (ge : s.heap.get? e = some oe) (gc : oe.cls = .ref C ∧ oe.dict = dx) (gd : oe.data = .fields vs) (g1 : vs[1]? = some .none) (g2 : vs[2]? = some .none)
  (k : ∀ h' T, KB [e] (frs (env :: outer)) s.heap h' → Fl h' e C dx T (rawInt L) → s.heap.get? T = none → Q () { s with heap := h' }) : wpAny M A (noteFrame (.ref e) env) Q E s := by
 unfold noteFrame
 simp only [hf]
 refine wpAny_bind (wpAny_field ge gd g1 ?_)
 rw [if_neg (by decide)]
 exact zah1 hfr hl hf ge gc gd (Array.getElem?_eq_some_iff.mp g1).1 g2 k
theorem zanb {T0 : Addr} (hfr : A.frames = some (env :: outer)) (hl : s.heap.FunFrames base (env :: outer)) (hf : env.frame = some L) (f : Fl s.heap e C dx T0 .none)
  (k : ∀ h' T, KB [T0, e] (frs (env :: outer)) s.heap h' → Fl h' e C dx T (rawInt L) → s.heap.get? T = none → Q () { s with heap := h' }) : wpAny M A (noteFrame (.ref e) env) Q E s := by
 obtain ⟨⟨oe, vs, a1, a2, a3, a4, a5⟩, ⟨oT, ts, b1, b2, b3⟩, nT⟩ := f
 unfold noteFrame
 simp only [hf]
 refine wpAny_bind (wpAny_field a1 a3 a4 ?_)
 rw [if_pos (by simp : (Value.ref T0 != Value.none) = true)]
 refine wpAny_bind (wpAny_field b1 b2 b3 ?_)
 rw [if_neg (by simp [rawInt] : ¬ ((Value.none == rawInt L) = true))]
 refine wpAny_bind (wpAny_setField b1 b2 (Array.getElem?_eq_some_iff.mp b3).1 ?_)
 have nfT : ∀ b o, s.heap.get? b = some o → (∀ ws, o.data ≠ .fields ws) → T0 ≠ b := fun b o hb hn z => by
  rw [← z, b1] at hb
  cases hb
  exact hn ts b2
 have same : ∀ b, T0 ≠ b → (s.heap.update T0 (Obj.mapFields (·.setIfInBounds 3 Value.none))).get? b = s.heap.get? b := fun b n => Heap.get?_update_other _ _ n
 have kb : KB [T0] (frs (env :: outer)) s.heap (s.heap.update T0 (Obj.mapFields (·.setIfInBounds 3 Value.none))) := fun b o hb nb => by
  have n1 : T0 ≠ b := fun z => nb (by simp [z])
  rw [same b n1]
  exact ⟨fun _ => hb, o.slots, hb⟩
 refine zah1 hfr (hl.of_keeps fun b o hb hn => ⟨o, by rw [same b (nfT b o hb hn)]; exact hb, rfl⟩) hf (by rw [same e nT]; exact a1) a2 a3 (Array.getElem?_eq_some_iff.mp a4).1 a5 fun h' T kb' f' n' => k h' T (kb.trans kb') f' ?_
 cases q : s.heap.get? T with
 | none => rfl
 | some o =>
  by_cases z : T0 = T
  ·have := Heap.get?_update_self (Obj.mapFields (·.setIfInBounds 3 Value.none)) b1 (Obj.isFreed_of_fields (Obj.data_mapFields b2 _))
   rw [z] at this
   rw [← z] at n'
   rw [z] at n'
   rw [this] at n'
   cases n'
  ·rw [same T z] at n'
   rw [n'] at q
   cases q
end
end L2

namespace L2
open PySem PySem.Spec PyProof.Rows
def CXE (P : Program) (w : World) : CXT := fun outer H s E e s' => ∃ (ea C T : Addr) (dx : Option Addr) (H' : Hp), e = .ref ea ∧ s'.os = s.os ∧ AllBare s'.gens ∧ Un (frs outer) [] H H' s.heap s'.heap ∧ HOk P w H' s'.heap ∧ Fl s'.heap ea C dx T .none ∧
 s.heap.get? ea = none ∧ s.heap.get? T = none ∧ H' ea = none ∧ H' T = none ∧ E (.ref C) dx H'
theorem KB.fs {ex fs : List Addr} {h h' : Heap} (a : KB ex [] h h') : KB ex fs h h' := fun b o e n => ⟨fun _ => (a b o e n).1 (by simp), (a b o e n).2⟩
theorem Un.fly {fs ex xs gs : List Addr} {H H1 : Hp} {h h1 h2 : Heap} (u : Un fs ex H H1 h h1) (kb : KB xs gs h1 h2) (hx : ∀ b ∈ xs, h.get? b = none) (hg : ∀ b ∈ gs, (∃ o, h.get? b = some o) → b ∈ fs) : Un fs ex H H1 h h2 where
 keep := fun b o e n hf hx' => (kb b o (u.keep b o e n hf hx') fun z => by rw [hx b z] at e; cases e).1 fun z => hf (hg b z ⟨o, e⟩)
 slot := fun b o e n hf hx' => by
  obtain ⟨sl, q⟩ := u.slot b o e n hf hx'
  obtain ⟨_, sl', q'⟩ := kb b _ q fun z => by rw [hx b z] at e; cases e
  exact ⟨sl', q'⟩
 free := u.free
 there := fun b o e hx' => by
  obtain ⟨o', q⟩ := u.there b o e hx'
  obtain ⟨_, sl', q'⟩ := kb b _ q fun z => by rw [hx b z] at e; cases e
  exact ⟨_, q'⟩
 tups := u.tups
 frzs := u.frzs
 tbls := u.tbls
theorem HOk.fly {P : Program} {w : World} {H : Hp} {h h' : Heap} {xs gs : List Addr} (x : HOk P w H h) (kb : KB xs gs h h') (hx : ∀ b ∈ xs, H b = none) (hg : ∀ b ∈ gs, H b = none) : HOk P w H h' := fun a o e =>
 (x a o e).stay (fun b u hb q => by
  have t : H b ≠ none := by
   rcases hb with rfl | hb
   ·rw [e]; intro z; cases z
   ·rw [hb]; intro z; cases z
  exact (kb b u q fun z => t (hx b z)).1 fun z => t (hg b z)) (fun _ q => q) fun _ _ q => q
section
variable {X : Cx} {pins : List (Addr × Obj)} {σ : St} {H H' : Hp} {s s' : Shared}
theorem Inv.fly {h' : Heap} {ex : List Addr} (I : Inv X pins σ H s) (kb : KB ex (frs X.stack) s.heap h')
  (hx : ∀ b ∈ ex, X.s₀.heap.get? b = none ∧ H b = none ∧ b ≠ X.env.locals ∧ (∀ x c, X.env.cells.lookup x = some c → c ≠ b) ∧ ∀ p ∈ X.pn ++ pins, p.1 ≠ b) : Inv X pins σ H { s with heap := h' } := by
 have cellK : ∀ x c v, X.env.cells.lookup x = some c → s.heap.IsCell c v → h'.IsCell c v := fun x c v e ⟨o, ho, hd⟩ => by
  obtain ⟨_, sl, q⟩ := kb c o ho fun z => (hx c z).2.2.2.1 x c e rfl
  exact ⟨_, q, hd⟩
 refine ⟨I.ok, I.os, I.bare, I.base.fly kb (fun b z => (hx b z).1) (fun b z ⟨o, e⟩ => ?_), ?_, fun x c e => ?_, I.free, I.freeC, fun p hp => ?_, I.hok.fly kb (fun b z => (hx b z).2.1) I.stkFree, I.len⟩
 ·rcases List.mem_cons.mp (I.stkSub b z) with y | y
  ·rw [y] at e
   exact absurd (Heap.lt_size e) (Nat.not_lt.mpr I.ok.above)
  ·exact y
 ·obtain ⟨m, ⟨o, es, ep, ho, r⟩, l⟩ := I.loc
  obtain ⟨_, sl, q⟩ := kb _ o ho fun z => (hx _ z).2.2.1 rfl
  refine ⟨m, ⟨_, es, ep, q, r⟩, fun i x v h1 h2 h3 => ?_⟩
  obtain ⟨u, ru, lk⟩ := l i x v h1 h2 h3
  refine ⟨u, ru, ?_⟩
  rcases lk with a | ⟨a, c, b1, b2⟩
  ·exact .inl a
  ·exact .inr ⟨a, c, b1, cellK x c _ b1 b2⟩
 ·obtain ⟨v, q⟩ := I.cell x c e
  exact ⟨v, cellK x c v e q⟩
 ·obtain ⟨a, b, c, d, e⟩ := I.pin p hp
  exact ⟨(kb _ _ a fun z => (hx _ z).2.2.2.2 p hp rfl).1 fun z => (List.mem_cons.mp (I.stkSub _ z)).elim c d, b, c, d, e⟩
theorem Inv.alien (I : Inv X pins σ H s) {b : Addr} (n : s.heap.get? b = none) : b ≠ X.env.locals ∧ (∀ x c, X.env.cells.lookup x = some c → c ≠ b) ∧ ∀ p ∈ X.pn ++ pins, p.1 ≠ b := by
 refine ⟨fun z => ?_, fun x c e z => ?_, fun p hp z => ?_⟩
 ·obtain ⟨m, ⟨o, es, ep, ho, r⟩, l⟩ := I.loc
  rw [← z, n] at ho
  cases ho
 ·obtain ⟨v, o, ho, _⟩ := I.cell x c e
  rw [z, n] at ho
  cases ho
 ·have := (I.pin p hp).1
  rw [z, n] at this
  cases this
theorem Inv.alien0 (I : Inv X pins σ H s) (hex : X.ex = []) {b : Addr} (n : s.heap.get? b = none) : X.s₀.heap.get? b = none := by
 cases q : X.s₀.heap.get? b with
 | none => rfl
 | some o =>
  obtain ⟨o', z⟩ := I.base.there b o q (by rw [hex]; simp)
  rw [n] at z
  cases z
theorem HOk.alien {P : Program} {w : World} {H : Hp} {h : Heap} {b : Addr} (x : HOk P w H h) (n : h.get? b = none) : H b = none := by
 cases q : H b with
 | none => rfl
 | some o =>
  obtain ⟨o', z⟩ := x.has q
  rw [n] at z
  cases z
end
section
variable {P : Program} {w : World} {K : PySem.W.Frag} {mg : Str → Option Value} {base : Heap} {N : List Str} {qual : Str} {scope : Scope} {f : Addr} {cd : Value} {A : Around} {outer : List Env} {s₀ : Shared} {H₀ : Hp} {E : XK}
abbrev cxE (P : Program) (w : World) (K : PySem.W.Frag) (mg : Str → Option Value) (base : Heap) (N : List Str) (qual : Str) (scope : Scope) (f : Addr) (cd : Value) (A : Around) (outer : List Env) (s₀ : Shared) (H₀ : Hp) (E : XK) : Cx :=
 cxOf (CXE P w) P w K mg base N qual scope f cd A outer s₀ H₀ E
theorem zao4 {X : Cx} {pins : List (Addr × Obj)} {σ : St} {H : Hp} {s : Shared} (I : Inv X pins σ H s) : ∀ b ∈ frs X.stack, (∃ o, X.s₀.heap.get? b = some o) → b ∈ X.fs := fun b z ⟨o, e⟩ => by
 rcases List.mem_cons.mp (I.stkSub b z) with y | y
 ·rw [y] at e
  exact absurd (Heap.lt_size e) (Nat.not_lt.mpr I.ok.above)
 ·exact y
end
end L2

namespace L2
open PySem PySem.Spec PyProof.Rows
abbrev bmV : List Value := [.type "ValueError", .type "Exception", .type "BaseException", .type "object"]
def XC (K : PySem.W.Frag) (C : Addr) : Prop := PySem.W.excIn K C bmV "ValueError.__new__" = true
theorem XC.obj {K : PySem.W.Frag} {h : Heap} {C : Addr} (q : XC K C) (X : K.In h) : ∃ bm N nm qn bs hdct sn sub ab col dd k0 k1 k2 k3 k5 mN,
  h.get? C = some (excClassObj nm qn C N bs bm hdct sn sub ab col dd k0 k1 k2 k3 k5 "ValueError.__new__") ∧ h.Ns N mN ∧ mN "__init__" = none ∧ OwnTail h bmV bm := by
 have q : PySem.W.excIn K C bmV "ValueError.__new__" = true := q
 unfold PySem.W.excIn at q
 split at q
 case h_2 => cases q
 case h_1 dd cd sl ho =>
  split at q
  case h_2 => cases q
  case h_1 C' bm k0 k1 k2 k3 n k5 hm hs =>
   simp only [Bool.and_eq_true, beq_iff_eq, Bool.not_eq_true'] at q
   obtain ⟨⟨⟨⟨⟨rfl, rfl⟩, dl⟩, ht⟩, ok⟩, ni⟩ := q
   obtain ⟨nm, bs, mro, ns, qn, hd, sn, sub, ab, col, del⟩ := cd
   dsimp only at hm dl ok ni
   subst hm dl
   obtain ⟨l⟩ := sl
   simp only at hs
   subst hs
   exact ⟨bm, ns, nm, qn, bs, hd, sn, sub, ab, col, dd, k0, k1, k2, k3, k5, _, X _ _ ho, .of_isNs (PySem.W.isNs_of_in X ok), PySem.W.nsMap_none_of_in X ok ni, PySem.W.tail_of_in X ht⟩
def XB (K : PySem.W.Frag) (C : Addr) : Prop := (match K.lookup C with
 | some ⟨.type "type", _, .cls cd, sl⟩ => (match cd.mro, sl.toList with
  | .ref C' :: bm, [_, _, _, _, some (.builtin n), _] => C' == C && n == "ValueError.__new__" && !cd.hasDel && PySem.W.tailIn K bmV bm && PySem.W.nsOkIn K cd.ns
  | _, _ => false)
 | _ => false) = true
theorem XB.obj {K : PySem.W.Frag} {h : Heap} {C : Addr} (q : XB K C) (X : K.In h) : ∃ bm N nm qn bs hdct sn sub ab col dd k0 k1 k2 k3 k5 mN,
  h.get? C = some (excClassObj nm qn C N bs bm hdct sn sub ab col dd k0 k1 k2 k3 k5 "ValueError.__new__") ∧ h.Ns N mN ∧ OwnTail h bmV bm := by
 unfold XB at q
 split at q
 case h_2 => cases q
 case h_1 dd cd sl ho =>
  split at q
  case h_2 => cases q
  case h_1 C' bm k0 k1 k2 k3 n k5 hm hs =>
   simp only [Bool.and_eq_true, beq_iff_eq, Bool.not_eq_true'] at q
   obtain ⟨⟨⟨⟨rfl, rfl⟩, dl⟩, ht⟩, ok⟩ := q
   obtain ⟨nm, bs, mro, ns, qn, hd, sn, sub, ab, col, del⟩ := cd
   dsimp only at hm dl ok
   subst hm dl
   obtain ⟨l⟩ := sl
   simp only at hs
   subst hs
   exact ⟨bm, ns, nm, qn, bs, hd, sn, sub, ab, col, dd, k0, k1, k2, k3, k5, _, X _ _ ho, .of_isNs (PySem.W.isNs_of_in X ok), PySem.W.tail_of_in X ht⟩
theorem XC.b {K : PySem.W.Frag} {C : Addr} (q : XC K C) : XB K C := by
 have q : PySem.W.excIn K C bmV "ValueError.__new__" = true := q
 unfold PySem.W.excIn at q
 unfold XB
 split at q
 case h_2 => cases q
 case h_1 dd cd sl ho =>
  split at q
  case h_2 => cases q
  case h_1 C' bm k0 k1 k2 k3 n k5 hm hs =>
   rw [Bool.and_eq_true] at q
   rw [ho]
   show (match cd.mro, sl.toList with
    | .ref C' :: bm, [_, _, _, _, some (.builtin n), _] => C' == C && n == "ValueError.__new__" && !cd.hasDel && PySem.W.tailIn K bmV bm && PySem.W.nsOkIn K cd.ns
    | _, _ => false) = true
   rw [hm, hs]
   exact q.1
def tRaise (C : Addr) (E : XK) (t : TA) : TS := fun _ σ H => t σ H fun vs H1 => vs.length ≤ sizeLine ∧ E (.ref C) none H1
section
variable {P : Program} {w : World} {K : PySem.W.Frag} {mg : Str → Option Value} {base : Heap} {N : List Str} {qual : Str} {scope : Scope} {f : Addr} {cd : Value} {A : Around} {outer : List Env} {s₀ : Shared} {H₀ : Hp} {E : XK}
theorem powE : PassesOwn (model P w) (cxE P w K mg base N qual scope f cd A outer s₀ H₀ E).A (cxE P w K mg base N qual scope f cd A outer s₀ H₀ E).env (cxE P w K mg base N qual scope f cd A outer s₀ H₀ E).xe := PassesOwn.leaving
end
section
variable {P : Program} {w : World} {K : PySem.W.Frag} {mg : Str → Option Value} {base : Heap}
theorem Fun.okE {x qual : Str} {st : Stmt} {f : Addr} {fd : FuncData} {N ps : List Str} {k : Nat} {sp : Sp} (F : Fun K x qual st f fd) (S : FnScope N ps (defScope st)) (len : ∀ vs H Q E, sp vs H Q E → vs.length = ps.length)
  (hbody : ∀ (cdv : Value) (A : Around) (outer : List Env) (s : Shared) (H : Hp) (vs : List V) (Q : VK) (E : XK), Room k (A.deeper (envOfC qual (defScope st) s.heap.objs.size f cdv)) → sp vs H Q E →
   ∃ t, PSs (cxE P w K mg base N qual (defScope st) f cdv A outer s H E) (defBody st) t ∧ t { nx := fun _ H' => Q .non H', rt := Q } (start N vs) H) : FnOk P w K mg base (CXE P w) (k + 1) f fd ps sp := by
 obtain ⟨oc, od, kV, doc, pm, an, cdv, ct, osl, rfl, lk, hcd⟩ := F.ex
 exact zaor lk hcd S len fun A outer s H vs Q E hr hsp => hbody cdv A outer s H vs Q E hr hsp
theorem FnOk.calm {k : Nat} {f : Addr} {fd : FuncData} {ps : List Str} {sp sp' : Sp} (F : FnOk P w K mg base (CXE P w) k f fd ps sp) (h : ∀ vs H Q E, sp' vs H Q E → sp vs H Q E0) : FnOk P w K mg base CX0 k f fd ps sp' :=
 ⟨fun vs H Q E q => F.len vs H Q E0 (h _ _ _ _ q), fun A outer s H args us vs Q E hr he hb hv hs => codeAny_mono (F.run A outer s H args us vs Q E0 hr he hb hv (h _ _ _ _ hs)) fun r s' hq => by
  cases r with
  | ok fl => cases fl <;> exact hq
  | error e =>
   obtain ⟨ea, C, T, dx, H', _, _, _, _, _, _, _, _, _, _, z⟩ := (show CXE P w outer H s E0 e s' from hq)
   exact z.elim⟩
end
end L2

namespace L2
open PySem PySem.Spec PyProof.Rows
def Cx.hand (X : Cx) (v : Value) : Cx := { X with A := X.A.mark (some v), calm := false }
section
variable {X : Cx} {pins : List (Addr × Obj)} {σ : St} {H H' : Hp} {s s' : Shared} {v : Value}
theorem Inv.hand (I : Inv X pins σ H s) (v : Value) : Inv (X.hand v) pins σ H s :=
 ⟨⟨I.ok.mod, I.ok.kind, I.ok.glob, I.ok.blt, I.ok.above, I.ok.inj, I.ok.has, I.ok.cab, (fun z => by cases z), I.ok.frames, I.ok.stk, I.ok.exf, I.ok.bs, I.ok.bsz, I.ok.noex, I.ok.exfs, I.ok.funs, I.ok.frf⟩, I.os, I.bare, I.base, I.loc, I.cell, I.free, I.freeC, I.pin, I.hok, I.len⟩
theorem Inv.unhand (J : X.Ok) (I : Inv (X.hand v) pins σ H s) : Inv X pins σ H s := ⟨J, I.os, I.bare, I.base, I.loc, I.cell, I.free, I.freeC, I.pin, I.hok, I.len⟩
theorem Inv.track {a : Addr} {o : HO} (I : Inv X pins σ H s) (hn : H a = none) (n0 : X.s₀.heap.get? a = none) (nl : a ≠ X.env.locals) (nc : ∀ x c, X.env.cells.lookup x = some c → c ≠ a) (np : ∀ p ∈ X.pn ++ pins, p.1 ≠ a)
  (new : ObjOk X.prog X.w (upd H a o) s.heap a o) : Inv X pins σ (upd H a o) s := by
 have ne : ∀ b u, H b = some u → b ≠ a := fun b u e z => by rw [z, hn] at e; cases e
 refine ⟨I.ok, I.os, I.bare, ⟨I.base.keep, I.base.slot, fun b o' e n hx => ?_, I.base.there, fun b xs e => ?_, fun b o' u e => ?_, fun b ps e => ?_⟩, I.loc, I.cell, ?_, fun x c e => ?_, fun p hp => ?_, fun b u e => ?_, I.len⟩
 ·rw [zaax (fun z => by rw [z, n0] at e; cases e)]
  exact I.base.free b o' e n hx
 ·have q := I.base.tups b xs e
  rw [zaax (ne b _ q)]
  exact q
 ·have q := I.base.frzs b o' u e
  rw [zaax (ne b _ q)]
  exact q
 ·obtain ⟨more, q⟩ := I.base.tbls b ps e
  exact ⟨more, by rw [zaax (ne b _ q)]; exact q⟩
 ·rw [zaax (Ne.symm nl)]
  exact I.free
 ·rw [zaax (nc x c e)]
  exact I.freeC x c e
 ·obtain ⟨q1, q2, q3⟩ := I.pin p hp
  exact ⟨q1, by rw [zaax (np p hp)]; exact q2, q3⟩
 ·by_cases hb : b = a
  ·subst hb
   rw [zaak] at e
   cases e
   exact new
  ·rw [zaax hb] at e
   exact (I.hok b u e).stay (fun _ _ _ q => q) (fun c q => by rw [zaax (ne c _ q)]; exact q) fun c xs q => by rw [zaax (ne c _ q)]; exact q
def exO (a C : Addr) (dx : Option Addr := none) : HO := .ext fun h => ∃ o vs, h.get? a = some o ∧ (o.cls = .ref C ∧ o.dict = dx) ∧ o.data = .fields vs ∧ vs[2]? = some .none
theorem zao5 {P : Program} {w : World} {H : Hp} {h : Heap} {a C T : Addr} {dx : Option Addr} {fl : Value} (f : Fl h a C dx T fl) : ObjOk P w H h a (exO a C dx) := by
 obtain ⟨oe, vs, h1, h2, h3, _, h5⟩ := f.ob
 exact ⟨⟨oe, vs, h1, h2, h3, h5⟩, ⟨oe, h1⟩, fun g1 g2 ⟨o, ws, q1, q2⟩ k => ⟨o, ws, k o q1, q2⟩⟩
theorem zag7 {P : Program} {w : World} {H : Hp} {h : Heap} {a C : Addr} {dx : Option Addr} (ok : HOk P w H h) (e : H a = some (exO a C dx)) : ∃ o vs, h.get? a = some o ∧ (o.cls = .ref C ∧ o.dict = dx) ∧ o.data = .fields vs ∧ vs[2]? = some .none := (ok a _ e).1
theorem zafo {M : Model} {A : Around} {E : Value → Shared → Prop} {i : Nat} {x : Str} {pos : Pos} {Q : Unit → Shared → Prop} (I : Inv X pins σ H s) (hN : X.N.Nodup) (hi : X.N[i]? = some x) (hk : X.env.scope.names.lookup x = some .local)
  (h : ∀ s', Inv X pins (σ.set i none) H s' → Q () s') : wpAny M A (do bindName X.env x .none; unbindBehindTheSuite X.env x pos) Q E s := by
 obtain ⟨m, hn, hl⟩ := id I.loc
 have hcls : (X.env.scope.kind == .class || (X.env.scope.kind == .module && X.env.locals != X.env.globals)) = false := by rw [I.ok.kind]; rfl
 refine wpAny_nameGoes_keeps hk hn hcls fun h' v hn' hs => h _ ?_
 have nb : ∀ b, (∃ o, X.s₀.heap.get? b = some o) → b ≠ X.env.locals := fun b ⟨o, e⟩ => Nat.ne_of_lt (Nat.lt_of_lt_of_le (Heap.lt_size e) I.ok.above)
 refine ⟨I.ok, I.os, I.bare, ⟨fun b o e n hb hx => ?_, fun b o e n hb hx => ?_, I.base.free, fun b o e hx => ?_, I.base.tups, I.base.frzs, I.base.tbls⟩, ⟨_, hn', fun j y v' e1 e2 e3 => ?_⟩, fun y c e => ?_, I.free, I.freeC, fun p hp => ?_, fun b ob e => ?_, by rw [List.length_set]; exact I.len⟩
 ·exact (hs.2 b (nb b ⟨o, e⟩)).trans (I.base.keep b o e n hb hx)
 ·obtain ⟨sl, e1⟩ := I.base.slot b o e n hb hx
  exact ⟨sl, (hs.2 b (nb b ⟨o, e⟩)).trans e1⟩
 ·obtain ⟨o', e1⟩ := I.base.there b o e hx
  exact ⟨o', (hs.2 b (nb b ⟨o, e⟩)).trans e1⟩
 ·have hj : j ≠ i := fun z => by
   subst z
   rw [List.getElem?_set_self (by rw [I.len]; exact (List.getElem?_eq_some_iff.mp hi).1)] at e2
   cases e2
  rw [List.getElem?_set_ne (Ne.symm hj)] at e2
  obtain ⟨u', r', q⟩ := hl j y v' e1 e2 e3
  refine ⟨u', r', ?_⟩
  rcases q with ⟨k, e⟩ | ⟨k, c, e, z⟩
  ·have ny : y ≠ x := fun e => hj (zafb hN e1 (e ▸ hi))
   exact .inl ⟨k, by simp [ny, e]⟩
  ·exact .inr ⟨k, c, e, z.sameBut hs (I.cne y c e)⟩
 ·obtain ⟨w', z⟩ := I.cell y c e
  exact ⟨w', z.sameBut hs (I.cne y c e)⟩
 ·obtain ⟨e, n, ne, nf, d⟩ := I.pin p hp
  exact ⟨(hs.2 p.1 ne).trans e, n, ne, nf, d⟩
 ·refine (I.hok b ob e).stay (fun c w' hc q => (hs.2 c fun z => ?_).trans q) (fun _ q => q) fun _ _ q => q
  have f := I.free
  rcases hc with hc | hc
  ·rw [← z, hc, e] at f; cases f
  ·rw [← z, hc] at f; cases f
end
def XSub (K : PySem.W.Frag) (C CF : Addr) : Prop := (match K.lookup C with
 | some ⟨_, _, .cls cd, _⟩ => cd.mro.contains (.ref CF)
 | _ => false) = true
section
variable {M : Model} {A : Around} {E : Value → Shared → Prop} {s : Shared} {K : PySem.W.Frag} {C CF e : Addr}
theorem zalf {oe : Obj} {Q : Bool → Shared → Prop} (X : K.In s.heap) (c1 : XB K C) (c2 : XB K CF) (sb : XSub K C CF) (ge : s.heap.get? e = some oe) (gc : oe.cls = .ref C) (k : Q true s) : wpAny M A (excMatches (.ref e) (.ref CF)) Q E s := by
 obtain ⟨bm, N, nm, qn, bs, hdct, sn, sub, ab, col, dd, k0, k1, k2, k3, k5, mN, hC, _, T⟩ := c1.obj X
 obtain ⟨bm', N', nm', qn', bs', hdct', sn', sub', ab', col', dd', k0', k1', k2', k3', k5', mN', hF, _, T'⟩ := c2.obj X
 have z1 : (Value.ref CF :: bm').contains (.type "BaseException") = true := by rw [List.contains_cons, T'.hasType PySem.F.excBase_ValueError.hasBase, Bool.or_true]
 have z2 : (Value.ref C :: bm).contains (.ref CF) = true := by
  have sb : (match K.lookup C with
   | some ⟨_, _, .cls cd, _⟩ => cd.mro.contains (.ref CF)
   | _ => false) = true := sb
  split at sb
  case h_2 => cases sb
  case h_1 cl di cd sl ho =>
   have q := X _ _ ho
   rw [hC] at q
   cases q
   exact sb
 have ft := tc_notTuple
 obtain ⟨h, g, d, t, os⟩ := s
 unfold excMatches
 repeat (first
  | (with_reducible refine wpAny_loadPart_at ge ?_; rw [gc])
  | with_reducible refine wpAny_loadPart_at hF ?_
  | (with_reducible refine wpAny_isSubtype_exc hF ?_; rw [z1])
  | (with_reducible refine wpAny_isSubtype_exc hC ?_; rw [z2])
  | wp_step)
 exact k
end
end L2

namespace L2
open PySem PySem.Spec PyProof.Rows
abbrev XW := XK
abbrev XD := St → XK
def XE (X : Cx) (pins : List (Addr × Obj)) (σ : St) (Ew : XW) (e : Value) (s' : Shared) : Prop := ∃ H1 s1, Inv X pins σ H1 s1 ∧ CXE X.prog X.w X.stack H1 s1 Ew e s'
def XPs (X : Cx) (pins : List (Addr × Obj)) (Dx : XD) (e : Value) (s' : Shared) : Prop := ∃ σ1, XE X pins σ1 (Dx σ1) e s'
abbrev TEX := St → Hp → VK → XW → Prop
abbrev TSX := Ends → XD → St → Hp → Prop
def PEX (X : Cx) (e : Expr) (t : TEX) : Prop :=
 ∀ (pins : List (Addr × Obj)) (s : Shared) (σ : St) (H : Hp) (Q : VK) (Ew : XW), Inv X pins σ H s → t σ H Q Ew → wpAny (model X.prog X.w) X.A (eval e X.env) (EP X pins σ Q) (XE X pins σ Ew) s
def PSX (X : Cx) (st : Stmt) (t : TSX) : Prop :=
 ∀ (pins : List (Addr × Obj)) (s : Shared) (σ : St) (H : Hp) (D : Ends) (Dx : XD), Inv X pins σ H s → t D Dx σ H → wpAny (model X.prog X.w) X.A (exec st X.env) (SP X pins D) (XPs X pins Dx) s
def PSXs (X : Cx) (st : List Stmt) (t : TSX) : Prop :=
 ∀ (pins : List (Addr × Obj)) (s : Shared) (σ : St) (H : Hp) (D : Ends) (Dx : XD), Inv X pins σ H s → t D Dx σ H → wpAny (model X.prog X.w) X.A (execs st X.env) (SP X pins D) (XPs X pins Dx) s
def Nox (X : Cx) : Prop := ∀ e s, X.xe e s → False
def tCallX (sp : Sp) (t : TA) : TEX := fun σ H Q Ew => t σ H fun vs H1 => sp vs H1 Q Ew
def tMethX (C : Addr) (m : Str) (sp : Sp) (ta : TE) (t : TA) : TEX := fun σ H Q Ew => ta σ H fun x H1 => ∃ a dx fs, x = .ref a ∧ H1 a = some (.ins C dx fs) ∧ fs.lookup m = none ∧ t σ H1 fun vs H2 => sp (x :: vs) H2 Q Ew
def tDropX (t : TEX) : TSX := fun D Dx σ H => t σ H (fun _ H1 => D.nx σ H1) (Dx σ)
def tIfX (tc : TT) (a b : TSX) : TSX := fun D Dx σ H => tc σ H fun c H1 => if c = true then a D Dx σ H1 else b D Dx σ H1
section
variable {X : Cx} {k : Nat} {f C : Addr} {fd : FuncData} {ps : List Str} {sp : Sp} {x m : Str} {p pos apos : Pos} {e o : Expr} {es : List Expr} {ta : TE} {t : TA}
theorem zalg {te : TEX} (he : PEX X e te) (hs : swapsWith e none pos.line X.env = pure false := by rfl) : PSX X (.Expr e pos) (tDropX te) := by
 intro pins s σ H D Dx I h
 exact wpAny_Expr_any (wpAny_mono (he pins s σ H _ _ I h) (fun v s1 ⟨x, H1, I1, r1, q1⟩ => ⟨σ, H1, I1, q1⟩) fun e s' q => ⟨σ, q⟩) I.quiet hs
theorem zalh {st : Stmt} {t : TSX} (h1 : PSX X st t) : PSXs X [st] t := by
 intro pins s σ H D Dx I h
 refine wpAny_execs_cons (thn (h1 pins s σ H D Dx I h) fun f s1 q => ?_)
 cases f with
 | next => exact wpAny_execs_nil q
 | ret v => exact q
 | brk => exact q
 | cont => exact q
end
def tTry (K : PySem.W.Frag) (CF : Addr) (i : Nat) (tb : TSX) (ts : Addr → TS) : TS := fun D σ H => tb D (fun σ1 c dx H' => ∃ C, c = .ref C ∧ XB K C ∧ XSub K C CF ∧ ∀ ea, H' ea = none →
 ts ea { nx := fun σ2 H2 => D.nx (σ2.set i none) H2, rt := D.rt, bk := fun σ2 H2 => D.bk (σ2.set i none) H2, ct := fun σ2 H2 => D.ct (σ2.set i none) H2 } (σ1.set i (some (.ref ea))) (upd H' ea (exO ea C dx))) σ H
section
variable {X : Cx}
theorem zao6 {x n : Str} {CF : Addr} {i : Nat} {body suite : List Stmt} {b₀ : Stmt} {tb : TSX} {ts : Addr → TS} {np hpos pos : Pos} (hx : Nox X) (hst : X.stack = X.env :: X.outer) (hfr : X.env.frame = some X.env.locals) (hex : X.ex = []) (hN : X.N.Nodup) (hi : X.N[i]? = some n)
  (hk : X.env.scope.names.lookup n = some .local) (hg : Gl X x) (hm : X.mg x = some (.ref CF)) (xf : XB X.K CF) (hb : PSXs X body tb) (hs : ∀ ea, PSs (X.hand (.ref ea)) (b₀ :: suite) (ts ea)) (hdb : (x == ("__debug__" : Str)) = false := by decide) :
  PS X (.Try body [.ExceptHandler (some (.Name x np)) (some n) (b₀ :: suite) hpos] [] [] pos) (tTry X.K CF i tb ts) := by
 intro pins s σ H D I h
 refine wpAny_Try_except (wpAny_mono (hb pins s σ H D _ I h) (fun f s1 q => ?_) fun e s1 q => ?_)
 ·cases f with
  | next => exact wpAny_execs_nil q
  | ret v => exact q
  | brk => exact q
  | cont => exact q
 ·obtain ⟨σ1, H1, s2, I2, ea, C, T, dx, H', rfl, os, bare, un, hok, fl, n1, n2, t1, t2, C', ec, xc, sb, q⟩ := q
  obtain rfl : C = C' := by cases ec; rfl
  have J : Inv X pins σ1 H' s1 := I2.call' (ch := []) os un hok bare (fun b z => absurd z (by simp))
  have fr : X.A.frames = some (X.env :: X.outer) := by rw [← hst]; exact J.ok.frames
  have ff : s1.heap.FunFrames X.base (X.env :: X.outer) := by rw [← hst]; exact J.stack
  refine zanb fr ff hfr fl fun h2 T1 kb fl2 nT => zag6 fl2 fun h3 kb3 fl3 => ?_
  have k3 : KB [T, ea, T1] (frs X.stack) s1.heap h3 := by rw [hst]; exact kb.trans kb3.fs
  have hA : ∀ b ∈ [T, ea, T1], X.s₀.heap.get? b = none ∧ H' b = none ∧ b ≠ X.env.locals ∧ (∀ x c, X.env.cells.lookup x = some c → c ≠ b) ∧ ∀ p ∈ X.pn ++ pins, p.1 ≠ b := fun b hb => by
   simp only [List.mem_cons, List.not_mem_nil, or_false] at hb
   rcases hb with rfl | rfl | rfl
   ·exact ⟨I2.alien0 hex n2, t2, I2.alien n2⟩
   ·exact ⟨I2.alien0 hex n1, t1, I2.alien n1⟩
   ·exact ⟨J.alien0 hex nT, J.hok.alien nT, J.alien nT⟩
  have J3 : Inv X pins σ1 H' { s1 with heap := h3 } := J.fly k3 hA
  have J3h := J3.hand (.ref ea)
  obtain ⟨oe, vs, g1, ⟨g2, _⟩, _⟩ := fl3.ob
  refine wpAny_handleBy_cons (codeAny_handlers_test (zadd (X := X.hand (.ref ea)) J3h hg hm (zalf J3.kIn xc xf sb g1 g2 ?_) hdb)) (by intro z; cases z)
  refine codeAny_handlers_suite_as ?_
  refine zag6 fl3 fun h4 kb4 fl4 => ?_
  have J4 : Inv X pins σ1 H' { s1 with heap := h4 } := J3.fly kb4.fs fun b hb => hA b (by simp only [List.mem_cons, List.not_mem_nil, or_false] at hb ⊢; exact .inr (.inr hb))
  obtain ⟨a0, a1, a2, a3, a4⟩ := hA ea (by simp)
  have J5 := (J4.track (o := exO ea C dx) a1 a0 a2 a3 a4 (zao5 fl4)).hand (.ref ea)
  refine zafc (X := X.hand (.ref ea)) (v := V.ref ea) J5 hN hi (.inl hk) (show RelV (V.ref ea) (Value.ref ea) from rfl) (fun s5 J6 => ?_) (.inr hk)
  refine wpAny_mono (hs ea pins s5 _ _ _ J6 (q ea a1)) (fun f s6 q6 => ?_) fun _ _ z => (hx _ _ z).elim
  cases f with
  | next =>
   obtain ⟨σ7, H7, J7, q7⟩ := q6
   exact zafo (J7.unhand J.ok) hN hi hk fun s' J8 => ⟨_, H7, J8, q7⟩
  | brk =>
   obtain ⟨σ7, H7, J7, q7⟩ := q6
   exact zafo (J7.unhand J.ok) hN hi hk fun s' J8 => ⟨_, H7, J8, q7⟩
  | cont =>
   obtain ⟨σ7, H7, J7, q7⟩ := q6
   exact zafo (J7.unhand J.ok) hN hi hk fun s' J8 => ⟨_, H7, J8, q7⟩
  | ret u =>
   obtain ⟨v, σ7, H7, J7, rv, q7⟩ := q6
   exact zafo (J7.unhand J.ok) hN hi hk fun s' J8 => ⟨v, _, H7, J8, rv, q7⟩
end
end L2

namespace L2
open PySem PySem.Spec PyProof.Rows
theorem zafp : entryFor table "proto.unchain" = some Builtin.«proto.unchain» := entryFor_of_fast (by kernel_rfl)
section
variable {prog : Program} {w : World} {A : Around} {E : Value → Shared → Prop} {s : Shared}
theorem zanc {α : Type} {Q : α → Shared → Prop} {e h : Addr} {oe oh : Obj} {ve vh : Array Value} (hh : A.handled = some (.ref h)) (ne : h ≠ e) (ge : s.heap.get? e = some oe) (gd : oe.data = .fields ve) (sz : 2 < ve.size)
  (gh : s.heap.get? h = some oh) (hd : oh.data = .fields vh) (h2 : vh[2]? = some .none) (k : E (.ref e) { s with heap := s.heap.update e (Obj.mapFields (·.setIfInBounds 2 (.ref h))) }) :
  wpAny (model prog w) A (raiseNew (.ref e) : Sem α) Q E s := by
 unfold raiseNew
 refine wpAny_bind (wpAny_handled ?_)
 rw [hh]
 dsimp only
 rw [if_pos (by simpa using ne : (Value.ref h != Value.ref e) = true)]
 refine wpAny_bind (wpAny_holding (wpAny_runValue (codeAny_builtin zafp ?_)))
 unfold Builtin.«proto.unchain»
 dsimp only
 refine wpAny_bind (wpAny_field gh hd h2 ?_)
 rw [if_pos (by decide)]
 unfold ret
 refine wpAny_pure ?_
 refine wpAny_bind ?_
 unfold updateField
 refine wpAny_bind (wpAny_load ge ?_)
 rw [gd]
 dsimp only
 rw [if_pos sz]
 exact wpAny_update ge (wpAny_throw k)
theorem zaio {it h : Addr} {x left step : Int} {oh : Obj} {vh : Array Value} {Q : Option Value → Shared → Prop} (hh : A.handled = some (.ref h)) (gh : s.heap.get? h = some oh) (hd : oh.data = .fields vh) (h2 : vh[2]? = some .none)
  (hit : IsRangeIter s.heap it x left step) (hl : left ≤ 0) (k : ∀ h', (∀ b o, s.heap.get? b = some o → h'.get? b = some o) → Q none { s with heap := h' }) : wpAny (model prog w) A (pyNext (.ref it)) Q E s := by
 have ty : s.TypeIs (.ref it) "range_iterator" := ⟨_, hit, rfl⟩
 unfold pyNext
 refine wpAny_bind (wpAny_attempt (wpAny_callSpecial?_slot (name := Str.ofString "__next__") ty F.slot_range_iterator_next (wpAny_call_entry F.slot_range_iterator_next ty F.entry_range_iterator_next ?_ (F.args_range_iterator_next_1 _))))
 (show wpAny _ _ (field (.ref it) 0 >>= _) _ _ s); refine wpAny_bind (wpAny_field hit rfl (x := rawInt x) rfl ?_)
 (show wpAny _ _ (field (.ref it) 1 >>= _) _ _ s); refine wpAny_bind (wpAny_field hit rfl (x := rawInt left) rfl ?_)
 (show wpAny _ _ (field (.ref it) 2 >>= _) _ _ s); refine wpAny_bind (wpAny_field hit rfl (x := rawInt step) rfl ?_)
 (show wpAny _ _ (if left ≤ 0 then _ else _) _ _ s); rw [if_pos hl]
 refine wpAny_bind (wpAny_rule (wpAny_bind ?_))
 (show wpAny _ _ (newExc (.type "StopIteration") [] >>= _) _ _ _); refine wpAny_bind ?_
 simp only [newExc, newTuple]
 refine wpAny_bind (wpAny_newObj_type ?_ (by size_fits)); refine wpAny_bind (m := firstArgMember _ _) (wpAny_of_eq (a := Value.none) (by first | rfl | (simp only [firstArgMember]; rfl)) ?_)
 refine wpAny_newObj_type ?_ (by size_fits)
 have gh' : ((s.heap.push { cls := Value.type "tuple", data := Data.seq #[] }).push { cls := Value.type "StopIteration", data := Data.fields (#[Value.ref s.heap.objs.size, Value.none, Value.none, Value.none, Value.bool false, Value.none] ++ ownMembersOf (Value.type "StopIteration") []) }).get? h = some oh :=
  Heap.get?_push_of_some _ (Heap.get?_push_of_some _ gh)
 have ne : h ≠ (s.heap.push { cls := Value.type "tuple", data := Data.seq #[] }).objs.size := Nat.ne_of_lt (by rw [Heap.size_push]; exact Nat.lt_succ_of_lt (Heap.lt_size gh))
 refine zanc (A := A.in1) (h := h) hh ne (Heap.get?_push_size _ rfl) rfl (by rw [Array.size_append]; show 2 < 6 + _; omega) gh' hd h2 ?_
 refine wpAny_bind (wpAny_isInstance (T := "StopIteration") (b := true) ⟨_, Heap.get?_update_self _ (Heap.get?_push_size _ rfl) rfl, rfl⟩ isSubtype_stop ?_)
 refine wpAny_pure (k _ fun b o e => ?_)
 have lt := Heap.lt_size e
 rw [Heap.get?_update_other _ _ (by show (s.heap.push _).objs.size ≠ b; rw [Heap.size_push]; exact Nat.ne_of_gt (Nat.lt_succ_of_lt lt))]
 exact Heap.get?_push_of_some _ (Heap.get?_push_of_some _ e)
end
def ItrH (ea : Addr) (lo : Int) (n : Nat) : It := ⟨fun i _ => i < n, fun i H x H' => H' = H ∧ x = .int (lo + i), fun i H => n ≤ i ∧ ∃ C dx, H ea = some (exO ea C dx)⟩
theorem zag8 {P : Program} {w : World} {K : PySem.W.Frag} {tg : Expr} (ea it : Addr) (lo : Int) (n : Nat) : TurnX (fun X => X.A.handled = some (.ref ea)) P w K tg (ItrH ea lo n) [it] it (fun i h => IsRangeIter h it (lo + (i : Nat) * 1) ((n : Int) - (i : Nat)) 1) where
 obj := fun i h st b hb => by
  have e : b = it := by simpa using hb
  subst e
  exact ⟨_, st, fun v z => by
   have z' : Data.fields _ = Data.cell v := z
   cases z'⟩
 keep := fun i h h' st k => k it (by simp) _ st
 item := by
  intro X hP hw hK hc i pins s σ H E I hf st hg
  subst hP hw hK
  obtain ⟨f0, f1, f2, f3, f4, f5⟩ := hf it (by simp)
  have hg : i < n := hg
  refine wpAny_pyNext_range_item st (by omega) fun h' st' ss => ?_
  have st2 : IsRangeIter h' it (lo + ((i + 1 : Nat) : Int) * 1) ((n : Int) - ((i + 1 : Nat) : Int)) 1 := by
   have e1 : lo + ((i + 1 : Nat) : Int) * 1 = lo + (i : Int) * 1 + 1 := by omega
   have e2 : (n : Int) - ((i + 1 : Nat) : Int) = (n : Int) - (i : Int) - 1 := by omega
   rw [e1, e2]
   exact st'
  have I1 : Inv X pins σ H { s with heap := h', toks := s.toks + 1 } := I.turned (fun b o hb e => ss.extBut b o hb e) f0 f1 f3 f4 f5
  refine ⟨_, rfl, zaks (s := { s with heap := h', toks := s.toks + 1 }) (n := "range_iterator") st' rfl rfl (by decide) ⟨.int (lo + i), H, I1, ⟨s.toks, ?_⟩, ⟨rfl, rfl⟩, st2, fun b hb => (hf b hb).1⟩⟩
  rw [Int.mul_one]
 done := by
  intro X hP hw hK hc i pins s σ H E I hf st hg
  subst hP hw hK
  obtain ⟨f0, f1, f2, f3, f4, f5⟩ := hf it (by simp)
  obtain ⟨hn, C, dx, hC⟩ := (show n ≤ i ∧ ∃ C dx, H ea = some (exO ea C dx) from hg)
  obtain ⟨o, vs, g1, _, g3, g4⟩ := zag7 I.hok hC
  exact zaio hc g1 g3 g4 st (by omega) fun h' eb => ⟨rfl, I.kept (t' := s.toks) eb⟩
 self := fun _ _ _ _ _ st h => wpAny_pyIter_rangeiter st h
def PIG (G : Cx → Prop) (X : Cx) (tg iter : Expr) (wi : TI) : Prop :=
 ∀ (pins : List (Addr × Obj)) (s : Shared) (σ : St) (H : Hp) (R : It → Hp → Prop), Inv X pins σ H s → wi σ H R →
  wpAny (model X.prog X.w) X.A (eval iter X.env) (fun v s1 => wpAny (model X.prog X.w) X.A (pyIter v) (fun itv s2 => ∃ (it : Addr) (fp : List Addr) (tn : Nat → Heap → Prop) (J : It) (H' : Hp), itv = .ref it ∧ Inv X pins σ H' s2 ∧ TurnX G X.prog X.w X.K tg J fp it tn ∧ tn 0 s2.heap ∧ (∀ b ∈ fp, FpOk X pins H' b) ∧ R J H') X.xe s1) X.xe s
def iRngH (ea : Addr) (ta : TA) : TI := fun σ H R => ta σ H fun vs H1 => ∃ j : Int, vs = [.int j] ∧ -(2 ^ 62) ≤ j ∧ j < 2 ^ 62 ∧ R (ItrH ea 0 j.toNat) H1
section
variable {X : Cx} {tg : Expr}
theorem zajv {ea : Addr} {a : Expr} {ta : TA} {p pos : Pos} (hg : Gl X "range") (hm : X.mg "range" = none) (ha : Pr (PA X [a] ta)) (hs : starEach [a] X.env = [(false, eval a X.env)] := by rfl) :
  PIG (fun X => X.A.handled = some (.ref ea)) X tg (.Call (.Name "range" p) [a] [] pos) (iRngH ea ta) := by
 intro pins s σ H R I h
 refine Call_ (zaea I hg hm boot_range (PyProof.Rows.callWith_type1 (thn (ha.h pos pins s σ H _ I h) fun us s1 ⟨vs, H1, I1, r1, q1⟩ => ?_) hs rfl))
 obtain ⟨j, e, q1, q2, q⟩ := q1
 subst e
 cases r1 with
 | cons r rr =>
  cases rr
  obtain ⟨t, rfl⟩ := r
  refine call_range_1 ?_
  refine wpAny_pyIter_range (IsRange.new ..) (small_one (by omega) (by omega) q1 q2) ?_
  refine ⟨_, [_], _, _, H1, rfl, (I1.kept fun b o e => Heap.get?_push_of_some _ (Heap.get?_push_of_some _ e)), zag8 ea _ 0 j.toNat, ?_, fun b hb => ?_, q⟩
  ·have e2 : ((j.toNat : Nat) : Int) - ((0 : Nat) : Int) = Builtin.Range.rangeSize 0 j 1 := by rw [rangeSize_one]; split <;> omega
   show IsRangeIter _ _ ((0 : Int) + ((0 : Nat) : Int) * 1) (((j.toNat : Nat) : Int) - ((0 : Nat) : Int)) 1
   rw [e2]
   exact Heap.get?_push_size _ rfl
  ·obtain rfl : b = _ := by simpa using hb
   exact I1.fpOk (Nat.le_succ _) (I1.hok.fresh (Nat.le_succ _))
end
end L2

namespace L2
open PySem PySem.Spec PyProof.Rows PySem.W
structure XA (K : PySem.W.Frag) (C : Addr) : Prop where
 xc : XB K C
 ga : findIn K (.ref C) "__getattribute__" = some (some (.builtin "BaseException.__getattribute__"))
 gt : findIn K (.ref C) "__getattr__" = some none
 cl : findIn K (.ref C) "__class__" = some (some (.builtin "object.__class__"))
 sg : specialIn K (.builtin "object.__class__") "__get__" = some (some (.builtin "getset_descriptor.__get__"))
 tk : takesIn K (.builtin "object.__class__") = some true
 mo : mroIn K C (.type "object") = some true
 cs : (clsIn K C).isSome = true
theorem zafq {K : Frag} {C : Addr} {od : Option Obj} {name : Str} {a g : Value} (hc : (clsIn K C).isSome = true) (ha : findIn K (.ref C) name = some (some a)) (hg : specialIn K a "__get__" = some (some g)) (ht : takesIn K a = some true) : findObj K C od name = some (.bind g a) := by
 obtain ⟨cd, hc⟩ := Option.isSome_iff_exists.mp hc
 unfold findObj
 rw [hc, Option.bind_some, ha, Option.bind_some]
 simp [hg, ht]
section
variable {prog : Program} {w : World} {A : Around} {E : Value → Shared → Prop} {s : Shared} {K : Frag} {x C : Addr} {ox : Obj} {od : Option Obj}
theorem zajw {Q : Option Value → Shared → Prop} (X : K.In s.heap) (xa : XA K C) (I : InstAt s.heap x ox C od) (h : Q (some (.ref C)) { s with toks := s.toks + 1 }) : wpAny (model prog w) A (getAttr? (.ref x) "__class__") Q E s := by
 obtain ⟨bm, N, nm, qn, bs, hdct, sn, sub, ab, col, dd, k0, k1, k2, k3, k5, mN, hC, hN, T⟩ := xa.xc.obj X
 obtain ⟨hh, g, d, t, os⟩ := s
 have L0 := I.type (M := model prog w)
 have L1 := looks_findIn (M := model prog w) X xa.ga
 have L2 := looks_findIn (M := model prog w) X xa.gt
 have L3 := looks_find (M := model prog w) X I (zafq xa.cs xa.cl xa.sg xa.tk)
 have f3 := PySem.F.attr_ValueError.ga.bind (.ref x)
 unfold getAttr? getAttrBy? getAttrBy
 refine wpAny_bind (wpAny_mkText (wpAny_bind (wpAny_attempt (wpAny_holding (wpAny_bind (L0.at (wpAny_bind (L1.at ?_))))))))
 dsimp only
 have b0 : (Value.builtin "BaseException.__getattribute__" == Value.builtin "object.__getattribute__") = false := by decide +kernel
 rw [if_neg (by rw [b0, Bool.and_false]; exact Bool.false_ne_true)]
 unfold getAttrByItsOwn hookBefore
 rw [if_pos (show onTheHeap (Value.ref C) = true from rfl)]
 refine wpAny_bind (L2.at (wpAny_bind (wpAny_attempt (wpAny_holding ?_))))
 unfold callGetattribute
 rw [if_neg (by decide +kernel)]
 unfold boundAndCalled
 refine wpAny_bind (wpAny_of_eq f3 ?_)
 refine wpAny_call (codeAny_call_builtin PySem.F.attr_ValueError.ga.plain PySem.F.entry_bexc_ga ?_)
 have y1 : builtinKind "BaseException.__getattribute__" = some .slot := by decide +kernel
 have y2 : splitId "BaseException.__getattribute__" = some ("BaseException", "__getattribute__") := by decide +kernel
 have y3 : (Value.ref C :: bm).contains (.type "BaseException") = true := by rw [List.contains_cons, T.hasType PySem.F.excBase_ValueError.hasBase, Bool.or_true]
 have y4 := PySem.F.args_bexc_ga (.ref x) (.str "__class__" t)
 have gx := I.at_
 have gc := I.cls
 simp only [checkBuiltinCall, y1, y2]
 refine wpAny_bind ?_
 unfold isInstance
 repeat (first
  | with_reducible refine wpAny_bind (L3.at ?_)
  | with_reducible refine L3.at ?_
  | (with_reducible refine wpAny_loadPart_at gx ?_; rw [gc])
  | (with_reducible refine wpAny_isSubtype_exc hC ?_; rw [y3])
  | wp_step)
 refine class_get (s := ⟨hh, g, d, t + 1, os⟩) X I xa.mo ?_
 unfold ret
 refine wpAny_pure ?_
 exact handed_on rfl (wpAny_pure h)
theorem zah2 (xa : XA K C) : KitX K (.ref x) (.ref C) (fun h => ∃ ox od, InstAt h x ox C od) where
 ty := fun _ _ _ ⟨_, _, I⟩ => I.type
 it := fun _ _ X _ => by
  obtain ⟨cd, hcd⟩ := Option.isSome_iff_exists.mp xa.cs
  unfold clsIn at hcd
  split at hcd
  case h_1 c' d' cd' sl' ho =>
   intro A' Q' E' s' k q
   unfold isType loadHead
   exact wpAny_bind (wpAny_loadPart (k _ _ (X _ _ ho)) (wpAny_pure q))
  case h_2 => cases hcd
 ne := fun h tp dd its n sl X htp => by
  obtain ⟨cd, hcd⟩ := Option.isSome_iff_exists.mp xa.cs
  refine Bool.eq_false_iff.mpr fun q => ?_
  have e : C = tp := Value.ref.inj (beq_iff_eq.mp q)
  subst e
  unfold clsIn at hcd
  split at hcd
  case h_1 c' d' cd' sl' ho =>
   have z := (X _ _ ho).symm.trans htp
   cases z
  case h_2 => cases hcd
 ca := fun X ⟨_, _, I⟩ k => zajw X xa I k
end
def XDx (H : Hp) (dx : Option Addr) : Prop := ∀ d, dx = some d → ∃ fs, H d = some (.xd fs)
theorem zali {P : Program} {w : World} {H : Hp} {h : Heap} {a C : Addr} {dx : Option Addr} (ok : HOk P w H h) (e : H a = some (exO a C dx)) (hd : XDx H dx) : ∃ ox od, InstAt h a ox C od := by
 obtain ⟨o, vs, g1, ⟨g2, g3⟩, g4, _⟩ := zag7 ok e
 have n : notCls o = true := by unfold notCls; rw [g4]
 cases dx with
 | none => exact ⟨o, none, g1, g2, n, by rw [g3]; trivial⟩
 | some d =>
  obtain ⟨fs, hf⟩ := hd d rfl
  obtain ⟨od, g⟩ := ok.has hf
  exact ⟨o, some od, g1, g2, n, by rw [g3]; exact g⟩
def rIsX (K : Frag) : List V → Hp → VK → Prop := fun xs H Q => ∃ (ea C : Addr) (dx : Option Addr) (c : V) (b : Bool), xs = [.ref ea, c] ∧ H ea = some (exO ea C dx) ∧ XDx H dx ∧ XA K C ∧ ((∃ CF, c = .ref CF ∧ kitOne K (.ref C) (.ref CF) = some b) ∨ ∃ T, c = .ty T ∧ kitOne K (.ref C) (.type T) = some b) ∧ Q (.bl b) H
theorem zab2 {X : Cx} : CallR X (.builtin "isinstance") (rIsX X.K) := by
 intro pins s σ H xs us Q I r h
 obtain ⟨ea, C, dx, c, b, rfl, he, hd, xa, hc, q⟩ := h
 obtain ⟨u, v, rfl, ru, rv⟩ := vals2 r
 obtain rfl : u = Value.ref ea := ru
 have J := zali I.hok he hd
 rcases hc with ⟨CF, rfl, e⟩ | ⟨T, rfl, e⟩
 ·obtain rfl : v = Value.ref CF := rv
  exact kia_one (zah2 xa) I.kIn J e (fun z => by cases z) fun tk => ⟨.bl b, H, I.tok _, rfl, q⟩
 ·obtain rfl : v = Value.type T := rv
  exact kia_one (zah2 xa) I.kIn J e (fun z => by cases z) fun tk => ⟨.bl b, H, I.tok _, rfl, q⟩
end L2

namespace L2
open PySem PySem.Spec PyProof.Rows
structure RoomH (ea : Addr) (k : Nat) (A : Around) : Prop where
 hd : A.handled = some (.ref ea)
 dp : A.depth + 3 * k + 5 < recursionLimit
 un : A.units + 16 * k + 200 < cLine
theorem Room.hand {k : Nat} {A : Around} (r : Room k A) (ea : Addr) : RoomH ea k (A.mark (some (.ref ea))) := ⟨rfl, r.dp, r.un⟩
theorem RoomH.deeper {ea : Addr} {k : Nat} {A : Around} (r : RoomH ea (k + 1) A) (env : Env) : RoomH ea k (A.deeper env) :=
 ⟨r.hd, by have := r.dp; show A.depth + 1 + 3 * k + 5 < _; omega, by have := r.un; show A.units + 3 + 16 * k + 200 < _; omega⟩
structure FnOkH (P : Program) (w : World) (K : PySem.W.Frag) (mg : Str → Option Value) (base : Heap) (k : Nat) (f : Addr) (fd : FuncData) (ps : List Str) (sp : Addr → Sp) : Prop where
 len : ∀ ea vs H Q E, sp ea vs H Q E → vs.length = ps.length
 run : ∀ (ea : Addr) (A : Around) (outer : List Env) (s : Shared) (H : Hp) (args : Args) (us : List Value) (vs : List V) (Q : VK), RoomH ea k A → Env0 P w K mg base A outer s H → BindsTo s fd args (ps.zip us) → Vals vs us → sp ea vs H Q E0 →
  codeAny (model P w) A (.call (.ref f) args) (CR CX0 outer P w H s Q E0) s
structure DefOkH (P : Program) (w : World) (K : PySem.W.Frag) (mg : Str → Option Value) (base : Heap) (k : Nat) (x : Str) (ps : List Str) (sp : Addr → Sp) : Prop where
 ex : ∃ (f : Addr) (fd : FuncData), FnOkH P w K mg base k f fd ps sp ∧ Binds K fd ps [] ∧ PySem.W.keepIn K (.ref f) = true ∧ mg x = some (.ref f)
def tCallH (ea : Addr) (sp : Addr → Sp) (t : TA) : TE := fun σ H Q => t σ H fun vs H1 => sp ea vs H1 Q E0
section
variable {X : Cx} {k : Nat} {x : Str} {ps : List Str} {p pos : Pos} {e : Expr} {es : List Expr} {t : TA}
theorem zalj {ea : Addr} {sp : Addr → Sp} (D : DefOkH X.prog X.w X.K X.mg X.base k x ps sp) (hr : RoomH ea k X.A) (hg : Gl X x) (ha : PA X (e :: es) t) (hdb : (x == ("__debug__" : Str)) = false := by decide)
  (he : starEach (e :: es) X.env = (false, eval e X.env) :: starEach es X.env := by rfl) (hpl : (backTo pos (starEach es X.env)).any (·.1) = false := by rfl) : PE X (.Call (.Name x p) (e :: es) [] pos) (tCallH ea sp t) := by
 obtain ⟨f, fd, F, b, kp, m⟩ := D.ex
 intro pins s σ H Q I h
 refine wpAny_Call_Name_kw (zadd I hg m ?_ hdb)
 refine PySem.W.callWith_K (h₀ := X.base) I.ok.mod.kin kp (thn (ha pos pins s σ H _ I h) fun us s1 ⟨vs, H1, I1, r, q⟩ => ⟨I1.kIn, ?_⟩) he hpl
 have hl : us.length = ps.length := by rw [← r.length]; exact F.len _ _ _ _ _ q
 have bt := b s1 us I1.kIn (by rw [List.append_nil]; exact hl)
 rw [List.append_nil] at bt
 refine wpAny_call (codeAny_mono (F.run ea X.A X.stack s1 H1 ⟨us, []⟩ us vs Q hr I1.env0 bt r q) fun r s' hq => ?_)
 cases r with
 | error e => exact False.elim hq
 | ok fl =>
  cases fl with
  | ret u => exact I1.after hq
  | next => exact False.elim hq
  | brk => exact False.elim hq
  | cont => exact False.elim hq
end
def cxH (P : Program) (w : World) (K : PySem.W.Frag) (mg : Str → Option Value) (base : Heap) (N : List Str) (qual : Str) (scope : Scope) (f : Addr) (cd : Value) (A : Around) (outer : List Env) (s : Shared) (H : Hp) : Cx :=
 { cxOf CX0 P w K mg base N qual scope f cd { A with handled := none } outer s H E0 with A := A.deeper (envOfC qual scope s.heap.objs.size f cd), calm := false, xe := fun _ _ => False }
theorem Inv.reA {X : Cx} {pins : List (Addr × Obj)} {σ : St} {H : Hp} {s : Shared} (I : Inv X pins σ H s) {A' : Around} {E : Value → Shared → Prop} (hf : A'.frames = X.A.frames) : Inv { X with A := A', calm := false, xe := E } pins σ H s :=
 ⟨⟨I.ok.mod, I.ok.kind, I.ok.glob, I.ok.blt, I.ok.above, I.ok.inj, I.ok.has, I.ok.cab, (fun z => by cases z), hf.trans I.ok.frames, I.ok.stk, I.ok.exf, I.ok.bs, I.ok.bsz, I.ok.noex, I.ok.exfs, I.ok.funs, I.ok.frf⟩, I.os, I.bare, I.base, I.loc, I.cell, I.free, I.freeC, I.pin, I.hok, I.len⟩
theorem Fun.okH {P : Program} {w : World} {K : PySem.W.Frag} {mg : Str → Option Value} {base : Heap} {x qual : Str} {st : Stmt} {f : Addr} {fd : FuncData} {N ps : List Str} {k : Nat} {sp : Addr → Sp} (F : Fun K x qual st f fd) (S : FnScope N ps (defScope st)) (len : ∀ ea vs H Q E, sp ea vs H Q E → vs.length = ps.length)
  (hbody : ∀ (ea : Addr) (cdv : Value) (A : Around) (outer : List Env) (s : Shared) (H : Hp) (vs : List V) (Q : VK), RoomH ea k (A.deeper (envOfC qual (defScope st) s.heap.objs.size f cdv)) → sp ea vs H Q E0 →
   ∃ t, PSs (cxH P w K mg base N qual (defScope st) f cdv A outer s H) (defBody st) t ∧ t { nx := fun _ H' => Q .non H', rt := Q } (start N vs) H) : FnOkH P w K mg base (k + 1) f fd ps sp := by
 obtain ⟨oc, od, kV, doc, pm, an, cdv, ct, osl, rfl, lk, hcd⟩ := F.ex
 refine ⟨len, fun ea A outer s H args us vs Q hr e0 hb r hsp => ?_⟩
 have hl := len _ _ _ _ _ hsp
 have KX : K.In s.heap := e0.mod.kin.keeps fun b o e => (e0.bs b o e).1
 have lim : s.heap.NoLimit := e0.mod.nolimit.keeps fun b o e => (e0.bs b o e).1
 have e1 : Env0 P w K mg base { A with handled := none } outer s H := ⟨e0.frames, e0.mod, e0.bs, e0.bsz, e0.funs, e0.frf, e0.hok, e0.bare⟩
 have hkind : ∀ y ∈ ps.zip us, (defScope st).names.lookup y.1 = some .local ∨ ((defScope st).names.lookup y.1 = some .cell ∧ ((cellsFrom (s.heap.objs.size + 1) (defScope st).names []).lookup y.1).isSome = true) := fun ⟨n, v⟩ hy => by
  rcases S.par n (List.of_mem_zip hy).1 with q | q
  ·exact .inl q
  ·exact .inr ⟨q, PySem.W.cellsFrom_some _ _ _ (.inl q)⟩
 refine codeAny_call_function (by have := hr.dp; omega) (KX _ _ lk) rfl S.co S.gen rfl (PySem.W.codeRec_of KX hcd) (hb _ _ _ _ ?_)
 refine wpAny_newFunctionEnv_cells S.kind hkind fun env he s1 xc => ?_
 subst he
 refine ⟨lim.keeps xc.toInCall.keep, codeAny_func ?_⟩
 obtain ⟨t, ht, hq⟩ := hbody ea cdv A outer s H vs Q (hr.deeper _) hsp
 have I0 : Inv (cxOf CX0 P w K mg base N qual (defScope st) f cdv { A with handled := none } outer s H E0) [] (start N vs) H s1 := zagi S rfl e1 hl r xc
 have I : Inv (cxH P w K mg base N qual (defScope st) f cdv A outer s H) [] (start N vs) H s1 := I0.reA rfl
 refine wpAny_mono (ht [] s1 (start N vs) H _ I hq) (fun fl s' hs => ?_) fun e s' hs => False.elim hs
 have fin : ∀ {σ' : St} {H' : Hp} {v : V} {u : Value}, Inv (cxH P w K mg base N qual (defScope st) f cdv A outer s H) [] σ' H' s' → RelV v u → Q v H' → CE outer P w H s Q u s' :=
  fun {σ' H' v u} J rv q => ⟨v, H', J.os, J.bare, J.base, J.hok, rv, q⟩
 cases fl with
 | ret u =>
  obtain ⟨v, σ', H', J, rv, q⟩ := hs
  exact fin J rv q
 | next =>
  obtain ⟨σ', H', J, q⟩ := hs
  exact fin (v := V.non) (u := Value.none) J rfl q
 | brk =>
  obtain ⟨_, _, _, q⟩ := hs
  exact False.elim q
 | cont =>
  obtain ⟨_, _, _, q⟩ := hs
  exact False.elim q
section
variable {X : Cx} {sc : Scope} {own : List Str} {fr : List Nat} {N' : List Str} {tg elt iter : Expr} {ifs : List Expr} {g : TG} {tt : TT} {te : TE} {wi : TI} {pos : Pos} {G : Cx → Prop}
theorem zalk {i : Nat} {y : Str} {py spos : Pos} (hN : X.N.Nodup) (hy : X.N[i]? = some y) (hx : Loc X.env.scope y) (hc : ∀ cl C s H fp, G (cxC X sc cl N' C s H fp)) (cs : CompOk sc X.env.scope own X.N fr N') (hi : PIG G X tg iter wi)
  (hg : ∀ cl C s H fp, Pr (PG (cxC X sc cl N' C s H fp) tg g)) (hif : ∀ cl C s H fp, Pr (PIf (cxC X sc cl N' C s H fp) ifs tt)) (he : ∀ cl C s H fp, Pr (PE (cxC X sc cl N' C s H fp) elt te))
  (hsw : swapsWith (.ListComp elt [⟨tg, iter, ifs, 0⟩] sc pos) (some (.Name y py)) spos.line X.env = pure true) (hfn : X.fn y = true ∨ X.env.scope.names.lookup y = some .local := by first | exact .inl rfl | exact .inr rfl | assumption) (hs : ∀ x, foldedSetIterable iter X.env x = pure x := by intro _; rfl) :
  PS X (.Assign [.Name y py] (.ListComp elt [⟨tg, iter, ifs, 0⟩] sc pos) spos) (tSetC i own.length fr wi g tt te) := by
 intro pins s σ H D I h
 obtain ⟨cl, ecl, h1, h2⟩ := zadh (env := X.env) (sc := sc) fun y hy hf => I.ok.has y.1 (cs.fre y hy hf)
 rw [exec_Assign_Name_used _ _ _ _ hsw]
 refine wpAny_bind (wpAny_standAt (wpAny_bind ?_))
 show wpAny _ X.A (do let _ ← comprehension (.ListComp elt [⟨tg, iter, ifs, 0⟩] sc pos) sc X.env _ (newList []) false (eval iter X.env) (some (assign (.Name y py) X.env))) _ _ s
 refine wpAny_bind (wpAny_mono (wpAny_comprehension_free (use := some (assign (.Name y py) X.env)) (Q := fun _ s' => ∃ σ' H', Inv X pins σ' H' s' ∧ D.nx σ' H') rfl hs ecl cs.kind cs.loc (thn (hi pins s σ H _ I h) fun v s1 q1 => thn q1 fun itv s2 q2 => ?_))
  (fun _ s' hq => wpAny_pure (wpAny_pure hq)) fun _ _ e => e)
 obtain ⟨it, fp, tn, J, H2, rfl, I2, T, st, f2, KK⟩ := q2
 refine zadw (RR := fun acc C => compPost (model X.prog X.w) X.A X.xe (some (assign (.Name y py) X.env)) (fun _ s' => ∃ σ' H', Inv X pins σ' H' s' ∧ D.nx σ' H') acc C) I2 hc T st f2 cs h1 h2 (fun a b c d e => (hg a b c d e).h) (fun a b c d e => (hif a b c d e).h) (fun a b c d e => (he a b c d e).h) KK fun p C m H' ys s' hC hn hD hCn hq I' => ?_
 obtain ⟨f0, f1, f2, f3, f4, f5⟩ := I2.fpOk hC hCn
 show wpAny _ X.A (assign (.Name y py) X.env (.ref p)) _ _ _
 refine wpAny_assign_Name (zaeg (v := .ref p) I' hN hy hx rfl (fun s'' I'' ⟨a, hsa, ha⟩ => ?_) hfn)
 have hCa : C ≠ a := by
  rcases ha with z | z
  ·rw [z]; exact f1
  ·exact Ne.symm (f4 y a z)
 refine ⟨m, hn.sameBut hsa hCa, fun h' hs' => ⟨_, _, ?_, hq p hD⟩⟩
 exact I''.turned (t' := s''.toks) (it := C) (fun b o hb e => (hs'.2 b hb).trans e) f0 f1 f3 f4 f5
end
theorem zag9 {ea : Addr} {lo : Int} {n : Nat} {g : TG} {tt : TT} {te : TE} {Q : List V → Hp → Prop} {σ : St} {H : Hp} (Pv : Nat → List V → St → Hp → Prop) (hn : n < sizeLine) (h0 : Pv 0 [] σ H) (hl : ∀ i ys σ H, i ≤ n → Pv i ys σ H → ys.length ≤ i)
  (hx : ∀ ys σ H, Pv n ys σ H → ∃ C dx, H ea = some (exO ea C dx))
  (turn : ∀ i ys σ H, i < n → Pv i ys σ H → g (.int (lo + i)) σ H fun σ2 H2 => tt σ2 H2 fun b H3 => if b = true then te σ2 H3 fun y H4 => Pv (i + 1) (ys ++ [y]) σ2 H4 else Pv (i + 1) ys σ2 H3)
  (after : ∀ ys σ H, Pv n ys σ H → Q ys H) : Comp (ItrH ea lo n) g tt te Q σ H :=
 zafn n Pv h0 (fun i ys σ H hi p => Nat.lt_of_le_of_lt (Nat.le_trans (hl i ys σ H hi p) hi) hn) (fun i _ _ _ hi _ => hi) (fun ys σ H p => ⟨Nat.le_refl _, hx ys σ H p⟩) (fun i ys σ H hi p x H' y => by obtain ⟨rfl, rfl⟩ := y; exact turn i ys σ _ hi p) after
section
variable {X : Cx}
theorem zajx {k : Nat} {x : Str} {ps : List Str} {p pos : Pos} {e : Expr} {es : List Expr} {t : TA} {ea : Addr} {sp : Addr → Sp} (D : DefOkH X.prog X.w X.K X.mg X.base k x ps sp) (hr : RoomH ea k X.A) (hg : Gl X x) (ha : Pr (PA X (e :: es) t)) (hdb : (x == ("__debug__" : Str)) = false := by decide)
  (he : starEach (e :: es) X.env = (false, eval e X.env) :: starEach es X.env := by rfl) (hpl : (backTo pos (starEach es X.env)).any (·.1) = false := by rfl) : Pr (PE X (.Call (.Name x p) (e :: es) [] pos) (tCallH ea sp t)) := ⟨zalj D hr hg ha.h hdb he hpl⟩
theorem zaip {tg : Expr} {ea : Addr} {a : Expr} {ta : TA} {p pos : Pos} (hg : Gl X "range") (hm : X.mg "range" = none) (ha : Pr (PA X [a] ta)) (hs : starEach [a] X.env = [(false, eval a X.env)] := by rfl) :
  PIG (fun X => X.A.handled = some (.ref ea)) X tg (.Call (.Name "range" p) [a] [] pos) (iRngH ea ta) := zajv hg hm ha hs
theorem zajy {sc : Scope} {own : List Str} {fr : List Nat} {N' : List Str} {tg elt iter : Expr} {ifs : List Expr} {g : TG} {tt : TT} {te : TE} {wi : TI} {pos : Pos} {G : Cx → Prop} {i : Nat} {y : Str} {py spos : Pos} (hN : X.N.Nodup) (hy : X.N[i]? = some y) (hx : Loc X.env.scope y) (hc : ∀ cl C s H fp, G (cxC X sc cl N' C s H fp)) (cs : CompOk sc X.env.scope own X.N fr N') (hi : PIG G X tg iter wi)
  (hg : ∀ cl C s H fp, Pr (PG (cxC X sc cl N' C s H fp) tg g)) (hif : ∀ cl C s H fp, Pr (PIf (cxC X sc cl N' C s H fp) ifs tt)) (he : ∀ cl C s H fp, Pr (PE (cxC X sc cl N' C s H fp) elt te))
  (hsw : swapsWith (.ListComp elt [⟨tg, iter, ifs, 0⟩] sc pos) (some (.Name y py)) spos.line X.env = pure true) (hfn : X.fn y = true ∨ X.env.scope.names.lookup y = some .local := by first | exact .inl rfl | exact .inr rfl | assumption) (hs : ∀ x, foldedSetIterable iter X.env x = pure x := by intro _; rfl) :
  Pr (PS X (.Assign [.Name y py] (.ListComp elt [⟨tg, iter, ifs, 0⟩] sc pos) spos) (tSetC i own.length fr wi g tt te)) := ⟨zalk hN hy hx hc cs hi hg hif he hsw hfn hs⟩
theorem zand {x n : Str} {CF : Addr} {i : Nat} {body suite : List Stmt} {b₀ : Stmt} {tb : TSX} {ts : Addr → TS} {np hpos pos : Pos} (hx : Nox X) (hst : X.stack = X.env :: X.outer) (hfr : X.env.frame = some X.env.locals) (hex : X.ex = []) (hN : X.N.Nodup) (hi : X.N[i]? = some n)
  (hk : X.env.scope.names.lookup n = some .local) (hg : Gl X x) (hm : X.mg x = some (.ref CF)) (xf : XB X.K CF) (hb : PSXs X body tb) (hs : ∀ ea, Pr (PSs (X.hand (.ref ea)) (b₀ :: suite) (ts ea))) (hdb : (x == ("__debug__" : Str)) = false := by decide) :
  Pr (PS X (.Try body [.ExceptHandler (some (.Name x np)) (some n) (b₀ :: suite) hpos] [] [] pos) (tTry X.K CF i tb ts)) := ⟨zao6 hx hst hfr hex hN hi hk hg hm xf hb (fun ea => (hs ea).h) hdb⟩
end
end L2

namespace L2
open PySem PySem.Spec PyProof.Rows PySem.SeqAt
section
variable {X : Cx}
end
def Itv (K : PySem.W.Frag) (a : Addr) (xs : List V) : It :=
 ⟨fun i H => SqL K H a xs ∧ i < xs.length, fun i H x H' => H' = H ∧ xs.reverse[i]? = some x, fun i H => SqL K H a xs ∧ xs.length ≤ i⟩
section
variable {X : Cx} {tg : Expr}
def iRev (K : PySem.W.Frag) (ta : TA) : TI := fun σ H R => ta σ H fun vs H1 => ∃ a xs, vs = [.ref a] ∧ SqL K H1 a xs ∧ R (Itv K a xs) H1
end
def Eq0 (x y : V) : Prop := x = y ∧ ((∃ i, x = .int i) ∨ ∃ a, x = .ref a)
def Eq1 (H : Hp) (x y : V) : Prop := ∃ (p q : Addr) (zs : List V), x = .ref p ∧ y = .ref q ∧ p ≠ q ∧ H p = some (.lst zs) ∧ H q = some (.lst zs) ∧ ∀ z ∈ zs, Eq0 z z
section
variable {X : Cx}
def rNeL : R2 := fun x y H Q => ∃ (a b : Addr) (xs ys : List V), x = .ref a ∧ y = .ref b ∧ H a = some (.lst xs) ∧ H b = some (.lst ys) ∧ xs.length = ys.length ∧ (∀ (i : Nat) (x y : V), xs[i]? = some x → ys[i]? = some y → Eq1 H x y) ∧ Q (.bl false) H
end
end L2

namespace L2
open PySem PySem.Spec PyProof.Rows PySem.SeqAt
def Sca (x : V) : Prop := (∃ i, x = .int i) ∨ ∃ t, x = .str t
structure ScaL (xs : List V) : Prop where
 h : ∀ z ∈ xs, Sca z
theorem zane {α : Type} [BEq α] [LawfulBEq α] [DecidableEq α] (a b : α) : (a == b) = decide (a = b) := by
 by_cases h : a = b
 ·subst h; simp
 ·rw [decide_eq_false h]; exact beq_eq_false_iff_ne.mpr h
theorem zao7 {A : Around} {s : Shared} {x y : V} {u v : Value} (hx : Sca x) (hy : Sca y) (ru : RelV x u) (rv : RelV y v) : EqAt A s u v (decide (x = y)) := by
 rcases hx with ⟨i, rfl⟩ | ⟨i, rfl⟩ <;> rcases hy with ⟨j, rfl⟩ | ⟨j, rfl⟩ <;> obtain ⟨t, rfl⟩ := ru <;> obtain ⟨t', rfl⟩ := rv
 ·have := EqAt.int_int (A := A) (s := s) i t j t'
  rw [zane] at this
  rwa [show decide (V.int i = V.int j) = decide (i = j) from by by_cases h : i = j <;> simp [h]]
 ·rw [show decide (V.int i = V.str j) = false from by simp]
  exact EqAt.int_str i t j t'
 ·rw [show decide (V.str i = V.int j) = false from by simp]
  exact EqAt.str_int i t j t'
 ·have := EqAt.str_str (A := A) (s := s) i t j t'
  rw [show decide (V.str i = V.str j) = (i == j) from by
   by_cases h : i = j
   ·subst h; simp
   ·rw [decide_eq_false (fun z => h (V.str.inj z))]; exact (beq_eq_false_iff_ne.mpr h).symm]
  exact this
theorem zao8 {xs ys : List V} : ((List.range (min xs.length ys.length)).all (fun j => decide (xs[j]? = ys[j]?)) && xs.length == ys.length) = decide (xs = ys) := by
 by_cases h : xs = ys
 ·subst h
  simp
 ·rw [decide_eq_false h]
  by_cases hl : xs.length = ys.length
  ·rw [Bool.and_eq_false_iff]
   refine .inl ?_
   rw [List.all_eq_false]
   refine Classical.byContradiction fun z => h (List.ext_getElem? fun j => ?_)
   by_cases hj : j < xs.length
   ·refine Classical.byContradiction fun y => z ⟨j, List.mem_range.mpr (by omega), by simpa using y⟩
   ·rw [List.getElem?_eq_none (by omega), List.getElem?_eq_none (by omega)]
  ·rw [Bool.and_eq_false_iff]
   exact .inr (beq_eq_false_iff_ne.mpr hl)
theorem zall {A : Around} {s : Shared} {xs ys : List V} {us vs : List Value} (hx : ScaL xs) (hy : ScaL ys) (ru : Vals xs us) (rv : Vals ys vs) (j : Nat) (h1 : j < us.toArray.size) (h2 : j < vs.toArray.size) :
  EqAt A s us.toArray[j] vs.toArray[j] (decide (xs[j]? = ys[j]?)) := by
 have l1 := ru.length
 have l2 := rv.length
 have h1' : j < us.length := by simpa using h1
 have h2' : j < vs.length := by simpa using h2
 have gx : xs[j]? = some (xs[j]'(by omega)) := List.getElem?_eq_getElem (by omega)
 have gy : ys[j]? = some (ys[j]'(by omega)) := List.getElem?_eq_getElem (by omega)
 obtain ⟨w1, hw1, r1⟩ := ru.get gx
 obtain ⟨w2, hw2, r2⟩ := rv.get gy
 have k1 : us.toArray[j] = w1 := by
  have := List.getElem?_eq_getElem h1'
  rw [hw1] at this
  simpa using (Option.some.inj this).symm
 have k2 : vs.toArray[j] = w2 := by
  have := List.getElem?_eq_getElem h2'
  rw [hw2] at this
  simpa using (Option.some.inj this).symm
 rw [k1, k2, gx, gy]
 have e : decide (some (xs[j]'(by omega)) = some (ys[j]'(by omega))) = decide (xs[j]'(by omega) = ys[j]'(by omega)) := by
  by_cases h : (xs[j]'(by omega)) = (ys[j]'(by omega)) <;> simp [h]
 rw [e]
 exact zao7 (hx.h _ (List.getElem_mem _)) (hy.h _ (List.getElem_mem _)) r1 r2
section
variable {X : Cx}
def rEqT : R2 := fun x y H Q => ∃ (a b : Addr) (xs ys : List V), x = .ref a ∧ y = .ref b ∧ H a = some (.tup xs) ∧ H b = some (.tup ys) ∧ ScaL xs ∧ ScaL ys ∧ Q (.bl (decide (xs = ys))) H
def rNeT : R2 := fun x y H Q => ∃ (a b : Addr) (xs ys : List V), x = .ref a ∧ y = .ref b ∧ H a = some (.tup xs) ∧ H b = some (.tup ys) ∧ ScaL xs ∧ ScaL ys ∧ Q (.bl (!decide (xs = ys))) H
theorem zal5 (hu : X.A.units + 64 < cLine) : OpR X (compareOp .Eq) rEqT := by
 intro pins s σ H x y v u Q I rx ry h
 obtain ⟨a, b, xs, ys, rfl, rfl, ha, hb, hx, hy, q⟩ := h
 cases rx
 cases ry
 obtain ⟨z, its, rv, t1⟩ := I.hok a _ ha
 obtain ⟨z2, its2, rv2, t2⟩ := I.hok b _ hb
 have key := RcAt.tuples (A := X.A) (s := s) t1 t2 (by omega) (zall hx hy rv rv2)
 have e : ((List.range (min its.toArray.size its2.toArray.size)).all (fun j => decide (xs[j]? = ys[j]?)) && its.toArray.size == its2.toArray.size) = decide (xs = ys) := by
  rw [← zao8, List.size_toArray, List.size_toArray, ← rv.length, ← rv2.length]
 rw [e] at key
 exact key X.prog X.w X.xe _ ⟨.bl _, H, I, rfl, q⟩
def rEqS : R2 := fun x y H Q => ∃ (a b : Addr) (xs ys : List V), x = .ref a ∧ y = .ref b ∧ H a = some (.lst xs) ∧ H b = some (.lst ys) ∧ ScaL xs ∧ ScaL ys ∧ Q (.bl (decide (xs = ys))) H
def rNeS : R2 := fun x y H Q => ∃ (a b : Addr) (xs ys : List V), x = .ref a ∧ y = .ref b ∧ H a = some (.lst xs) ∧ H b = some (.lst ys) ∧ ScaL xs ∧ ScaL ys ∧ Q (.bl (!decide (xs = ys))) H
def rInN : R2 := fun x y H Q => ∃ (b : Addr) (ys : List V), x = .non ∧ y = .ref b ∧ H b = some (.lst ys) ∧ (∀ z ∈ ys, ∃ p, z = .ref p ∧ ((∃ zs, H p = some (.lst zs)) ∨ ∃ zs, H p = some (.tup zs))) ∧ Q (.bl false) H
end
end L2


namespace L2
open PySem PySem.W PyProof.Rows
structure Pm (n : Nat) (p : Array Nat) : Prop where
 perm : p.toList.Perm (List.range n)
section
variable {n : Nat} {L : Nat → Nat → Prop} [DecidableRel L] {cmp : Nat → Nat → (Bool → Shared → Prop) → Shared → Prop} {s : Shared}
def lR (L : Nat → Nat → Prop) (p : Array Nat) (i j : Nat) : Prop := L (p.getD i 0) (p.getD j 0)
instance lR_dec (p : Array Nat) (i j : Nat) : Decidable (lR L p i j) := inferInstanceAs (Decidable (L (p.getD i 0) (p.getD j 0)))
def Up (L : Nat → Nat → Prop) (p : Array Nat) (m : Nat) : Prop := ∀ i j, i < j → j < m → lR L p i j
def Dn (L : Nat → Nat → Prop) (p : Array Nat) (m : Nat) : Prop := ∀ i j, i < j → j < m → lR L p j i
structure Ord (n : Nat) (L : Nat → Nat → Prop) [DecidableRel L] (cmp : Nat → Nat → (Bool → Shared → Prop) → Shared → Prop) (s : Shared) : Prop where
 tr : ∀ {i j k}, L i j → L j k → L i k
 tot : ∀ i j, i < n → j < n → i ≠ j → ¬ L i j → L j i
 ask : ∀ i j C, i < n → j < n → C (decide (L i j)) s → cmp i j C s
end
end L2

namespace L2
open PySem PySem.W PyProof.Rows PySem.Calls
def KeptBut (a : Addr) (h h' : Heap) : Prop := ∀ b o, b ≠ a → h.get? b = some o → h'.get? b = some o
section
variable {prog : Program} {w : World} {A : Around} {E : Value → Shared → Prop} {s : Shared} {a : Addr} {vs : List Value} {κ : SortKind} {L : Nat → Nat → Prop} [DecidableRel L]
end
end L2

namespace L2
open PySem PySem.W PyProof.Rows PySem.SeqAt
def kLt : Key → Key → Prop
 | .inl a, .inl b => a < b
 | .inr x, .inr y => x.cps.toList < y.cps.toList
 | _, _ => False
instance kLt_dec : (a b : Key) → Decidable (kLt a b)
 | .inl a, .inl b => inferInstanceAs (Decidable (a < b))
 | .inr x, .inr y => inferInstanceAs (Decidable (x.cps.toList < y.cps.toList))
 | .inl _, .inr _ => isFalse id
 | .inr _, .inl _ => isFalse id
def kLex : List Key → List Key → Prop
 | k :: ks, k' :: ks' => if k = k' then kLex ks ks' else kLt k k'
 | _, _ => False
instance kLex_dec : (a b : List Key) → Decidable (kLex a b)
 | k :: ks, k' :: ks' => by
  unfold kLex
  by_cases h : k = k'
  ·rw [if_pos h]; exact kLex_dec ks ks'
  ·rw [if_neg h]; exact kLt_dec k k'
 | [], [] => isFalse id
 | [], _ :: _ => isFalse id
 | _ :: _, [] => isFalse id
section
variable {prog : Program} {w : World} {A : Around} {E : Value → Shared → Prop} {s : Shared}
end
end L2

namespace L2
open PySem PySem.W PyProof.Rows
structure DAt (h : Heap) (d : Addr) (es : Array DictEntry) (ep : Nat) : Prop where
 ex : ∃ o, h.get? d = some o ∧ o.ExactDict ∧ o.data = .dict es ep
def kitO (d : Addr) (i n ep : Nat) : Obj := { cls := .type "dict_keyiterator", data := .fields #[.ref d, .int i 0, .int n 0, .int ep 0] }
section
variable {prog : Program} {w : World} {A : Around} {E : Value → Shared → Prop} {s : Shared} {d it : Addr} {es : Array DictEntry} {ep i : Nat}
end
section
variable {prog : Program} {w : World} {A : Around} {R : Result → Shared → Prop} {d it S : Addr} {es : Array DictEntry} {ep : Nat}
end
end L2

namespace L2
open PySem PySem.W PyProof.Rows
section
variable {prog : Program} {w : World} {A : Around} {E : Value → Shared → Prop} {s : Shared} {d : Addr} {es : Array DictEntry} {ep : Nat}
end
end L2

namespace L2
open PySem PySem.W PyProof.Rows
def TKey (h : Heap) (k : List Key) (v : Value) : Prop := ∃ (p : Addr) (us : List Value), v = .ref p ∧ h.IsTuple p us.toArray ∧ Vals (k.map kV) us
abbrev TKs (h : Heap) : List (List Key) → List Value → Prop := Paired (TKey h)
section
variable {prog : Program} {w : World} {A : Around} {E : Value → Shared → Prop} {s : Shared} {a : Addr} {vs : List Value} {ks : List (List Key)} {g : Heap}
end
end L2

namespace L2
open PySem PySem.W PyProof.Rows PySem.Calls
section
variable {prog : Program} {w : World} {A : Around} {E : Value → Shared → Prop} {s : Shared} {a : Addr} {vs : List Value}
end
section
variable {X : Cx}
def rSrtT : List V → Hp → VK → Prop := fun xs H Q => ∃ (a : Addr) (kvs : List (List Key × V)) (b0 : Bool) (t0 : List Bool), xs = [.ref a] ∧ H a = some (.dT kvs) ∧ kvs.length < 64 ∧ (∀ p ∈ kvs, p.1.map Sum.isLeft = b0 :: t0) ∧
 ∀ (D : Addr) (ks : List (List Key)) (ps : List Addr), H D = none → ks.Perm (kvs.map (·.1)) → ks.Pairwise kLex → Paired (fun k p => H p = some (.tup (k.map kV))) ks ps → Q (.ref D) (upd H D (.lst (ps.map V.ref)))
end
end L2

namespace L2
open PySem PySem.W PyProof.Rows
section
variable {prog : Program} {w : World} {K : Type} [DecidableEq K] {knd : HeapKind prog w K} {A : Around} {E : Value → Shared → Prop} {s : Shared}
end
section
variable {X : Cx} {pins : List (Addr × Obj)} {σ : St} {H : Hp} {s : Shared} {A : Around} {E : Value → Shared → Prop}
end
def tDSetD (td ty tx : TE) : TE := fun σ H Q => td σ H fun x H1 => ∃ a, x = .ref a ∧ IsD H1 a ∧ ty σ H1 fun y H2 => tx σ H2 fun z H3 => ∃ b kvs k, H3 a = some (.dT kvs) ∧ y = .ref b ∧ H3 b = some (.tup (k.map kV)) ∧ kvs.length < sizeLine ∧
 (∀ v, valV kvs k = some v → Q v H3) ∧ (valV kvs k = none → Q z (upd H3 a (.dT (putK kvs k z))))
section
variable {X : Cx} {o e f : Expr} {apos cpos : Pos} {td ty tx : TE}
end
end L2

namespace L2
open PySem PySem.W PyProof.Rows
def sqO (k : SK) (xs : List V) : HO := match k with
 | .list => .lst xs
 | .tuple => .tup xs
def ItK (K : PySem.W.Frag) (k : SK) (a : Addr) : It := match k with
 | .list => Itl K a
 | .tuple => Itt K a
def iSq (K : PySem.W.Frag) (k : SK) (tl : TE) : TI := fun σ H R => tl σ H fun x H1 => ∃ a, x = .ref a ∧ (∃ xs, Sq k K H1 a xs) ∧ R (ItK K k a) H1
section
variable {X : Cx} {tg l : Expr}
theorem zanf (K : PySem.W.Frag) (hK : X.K = K) (k : SK) {tl : TE} (hl : Pr (PE X l tl)) : Pr (PI X tg l (iSq K k tl)) := by
 cases k with
 | list => exact zajt K hK hl
 | tuple => exact zald K hK hl
end
end L2

namespace L2
open PySem PySem.Spec PyProof.Rows PySem.SeqAt
section
variable {prog : Program} {w : World} {A : Around} {E : Value → Shared → Prop} {s : Shared} {I : Addr} {fp wr : List Addr} {G : Array GenState → Array GenState → Prop} {n : Nat} {P : Nat → Value → Prop} {St : Nat → Shared → Prop}
end
section
variable {X : Cx}
def tTR (K : PySem.W.Frag) (ta : TA) : TE := fun σ H Q => ta σ H fun vs H1 => ∃ a xs, vs = [.ref a] ∧ SqL K H1 a xs ∧ ∀ D, H1 D = none → Q (.ref D) (upd H1 D (.tup xs.reverse))
def SameL (H : Hp) (u v : Addr) : Prop := u ≠ v ∧ ∃ ps : List Addr, H u = some (.lst (ps.map V.ref)) ∧ H v = some (.lst (ps.map V.ref))
def rNeW : R2 := fun x y H Q => ∃ (a b : Addr) (us vs : List Addr), x = .ref a ∧ y = .ref b ∧ H a = some (.tup (us.map V.ref)) ∧ H b = some (.tup (vs.map V.ref)) ∧ Paired (SameL H) us vs ∧ Q (.bl false) H
theorem zaeq {α β : Type} {R : α → β → Prop} : ∀ {xs : List α} {ys : List β}, Paired R xs ys → ∀ (j : Nat) (h1 : j < xs.length) (h2 : j < ys.length), R xs[j] ys[j]
 | _, _, .nil, j, h1, _ => absurd h1 (Nat.not_lt_zero _)
 | _, _, .cons a t, 0, _, _ => a
 | _, _, .cons a t, j + 1, h1, h2 => by
  have := zaeq t j (by simpa using h1) (by simpa using h2)
  simpa using this
end
end L2

namespace L2
open PySem PySem.Spec PyProof.Rows PySem.SeqAt
section
variable {X : Cx}
def Pl (x : V) : Prop := (∃ i, x = .int i) ∨ ∃ p, x = .ref p
def EqD (H : Hp) (x y : V) : Prop := (x = y ∧ Pl x) ∨ ∃ u v zs, x = .ref u ∧ y = .ref v ∧ H u = some (.tup zs) ∧ H v = some (.tup zs) ∧ ∀ z ∈ zs, Pl z
def rNeD : R2 := fun x y H Q => ∃ (a b : Addr) (xs ys : List V), x = .ref a ∧ y = .ref b ∧ H a = some (.tup xs) ∧ H b = some (.tup ys) ∧ Paired (EqD H) xs ys ∧ Q (.bl false) H
end
end L2

namespace L2
open PySem
structure AF (sc : Scope) (N : List Str) : Prop where
 h : ∀ x ∈ N, (sc.names.lookup x = some .local ∨ sc.names.lookup x = some .cell) ∧ (x == ("__debug__" : Str)) = false ∧ (x == ("__classdict__" : Str)) = false
structure AV (sc : Scope) (N : List Str) : Prop where
 h : ∀ x ∈ N, (sc.names.lookup x = some .local ∨ sc.names.lookup x = some .cell ∨ sc.names.lookup x = some .free) ∧ (x == ("__debug__" : Str)) = false ∧ (x == ("__classdict__" : Str)) = false
structure AK (sc : Scope) (N : List Str) : Prop where
 h : ∀ x ∈ N, sc.names.lookup x = some .local
structure AG (sc : Scope) (N : List Str) : Prop where
 h : ∀ x ∈ N, sc.names.lookup x = some .globalImplicit
theorem AF.l {sc : Scope} {N : List Str} (A : AF sc N) (i : Nat) {x : Str} (e : N[i]? = some x) : sc.names.lookup x = some .local ∨ sc.names.lookup x = some .cell := (A.h x (List.mem_of_getElem? e)).1
theorem AK.k {sc : Scope} {N : List Str} (A : AK sc N) (i : Nat) {x : Str} (e : N[i]? = some x) : sc.names.lookup x = some .local := A.h x (List.mem_of_getElem? e)
theorem AG.g {sc : Scope} {N : List Str} (A : AG sc N) (i : Nat) {x : Str} (e : N[i]? = some x) : sc.names.lookup x = some .globalImplicit := A.h x (List.mem_of_getElem? e)
theorem qv {X : Cx} {x : Str} {pos : Pos} (A : AF X.env.scope X.N) (i : Nat) (e : X.N[i]? = some x) : Pr (PE X (.Name x pos) (tVar i)) :=
 have a := A.h x (List.mem_of_getElem? e)
 zajk e (a.1.elim .inl fun h => .inr (.inl h)) a.2.1 a.2.2
theorem qw {X : Cx} {x : Str} {pos : Pos} (A : AV X.env.scope X.N) (i : Nat) (e : X.N[i]? = some x) : Pr (PE X (.Name x pos) (tVar i)) :=
 have a := A.h x (List.mem_of_getElem? e)
 zajk e a.1 a.2.1 a.2.2
end L2

namespace L2
open PySem PySem.Spec PyProof.Rows
def tMakeX (C : Addr) (sp : Sp) (t : TA) : TEX := fun σ H Q Ew => t σ H fun vs H1 => ∀ x dx, H1 x = none → H1 dx = none → dx ≠ x →
 sp (.ref x :: vs) (upd (upd H1 dx (.own x)) x (.ins C dx [])) (fun v H2 => v = .non ∧ Q (.ref x) H2) Ew
section
variable {X : Cx} {k : Nat} {C : Addr} {ps : List Str} {sp : Sp} {x : Str} {p pos : Pos} {e : Expr} {es : List Expr} {t : TA}
theorem zajz (hx : Nox X) (D : MakeOk X.prog X.w X.K X.mg X.base (CXE X.prog X.w) k C x ps sp) (hr : Room (k + 1) X.A) (hg : Gl X x) (ha : Pr (PA X (e :: es) t)) (hdb : (x == ("__debug__" : Str)) = false := by decide)
  (he : starEach (e :: es) X.env = (false, eval e X.env) :: starEach es X.env := by rfl) (hpl : (backTo pos (starEach es X.env)).any (·.1) = false := by rfl) : PEX X (.Call (.Name x p) (e :: es) [] pos) (tMakeX C sp t) := by
 obtain ⟨f, fd, F, hb, M, hm⟩ := D.ex
 intro pins s0 σ H0 Q Ew I0 h
 refine wpAny_Call_Name_kw (zadd I0 hg hm ?_ hdb)
 refine PySem.W.callWith_K (h₀ := X.base) I0.ok.mod.kin M.kp (wpAny_mono (ha.h pos pins s0 σ H0 _ I0 h) (fun us s ⟨vs, H, I, r, h⟩ => ⟨I.kIn, ?_⟩) fun _ _ z => (hx _ _ z).elim) he hpl
 have hq := h (s.heap.objs.size + 1) s.heap.objs.size (I.hok.fresh (Nat.le_succ _)) (I.hok.fresh (Nat.le_refl _)) (Nat.ne_of_lt (Nat.lt_succ_self _))
 have I2 := Inv.made (C := C) I
 have r2 : Vals (V.ref (s.heap.objs.size + 1) :: vs) (Value.ref (s.heap.objs.size + 1) :: us) := .cons rfl r
 have hl : (Value.ref (s.heap.objs.size + 1) :: us ++ []).length = ps.length := by
  have e := r2.length
  rw [F.len _ _ _ _ hq] at e
  rw [List.append_nil]
  exact e.symm
 have bt := hb _ (Value.ref (s.heap.objs.size + 1) :: us) I2.kIn hl
 rw [List.append_nil] at bt
 refine wpAny_call (zahs (f := f) I.kIn M.makes M.init (beq_iff_eq.mp M.fn) (codeAny_mono (F.run _ X.stack _ _ ⟨Value.ref (s.heap.objs.size + 1) :: us, []⟩ (Value.ref (s.heap.objs.size + 1) :: us) _ _ _ (hr.make C us []) (I2.env0.make C us []) bt r2 hq) fun r s' hq' => ?_))
 cases r with
 | error e => exact ⟨_, _, I2, hq'⟩
 | ok fl =>
  cases fl with
  | ret u =>
   obtain ⟨v, H', I3, rv, ev, q3⟩ := I2.after hq'
   subst ev
   exact ⟨rv, ⟨V.ref (s.heap.objs.size + 1), H', I3, rfl, q3⟩⟩
  | next => exact False.elim hq'
  | brk => exact False.elim hq'
  | cont => exact False.elim hq'
end
def rIsXs (K : PySem.W.Frag) : List V → Hp → VK → Prop := fun xs H Q => ∃ (ea C : Addr) (dx : Option Addr) (p : Addr) (cs : List V) (b : Bool), xs = [.ref ea, .ref p] ∧ H ea = some (exO ea C dx) ∧ XDx H dx ∧ H p = some (.tup cs) ∧ (∃ as : List Addr, cs = as.map V.ref ∧ XA K C ∧ PySem.W.kitAny K (.ref C) (as.map Value.ref) = some b) ∧ Q (.bl b) H
structure WK (K : PySem.W.Frag) (CR : Addr) (cs : List Addr) (co : Addr) : Prop where
 xa : XA K CR
 kr : PySem.W.kitOne K (.ref CR) (.ref CR) = some true
 kv : PySem.W.kitOne K (.ref CR) (.type "ValueError") = some true
 ks : PySem.W.kitAny K (.ref CR) (cs.map Value.ref) = some false
 ko : PySem.W.kitOne K (.ref CR) (.ref co) = some false
def tPar3 (i j l : Nat) (ta : TA) : TS := fun D σ H => ta σ H fun vs H1 => ∃ v w z, vs = [v, w, z] ∧ D.nx (((σ.set i (some v)).set j (some w)).set l (some z)) H1
end L2

namespace L2
open PySem PySem.Spec PyProof.Rows
def exN (a C : Addr) : HO := .ext fun h => ∃ t : Addr, h.get? a = some { cls := .ref C, data := .fields #[.ref t, .none, .none, .none, .bool false, .none] }
theorem zal6 {P : Program} {w : World} {H : Hp} {h : Heap} {a C t : Addr} (g : h.get? a = some { cls := .ref C, data := .fields #[.ref t, .none, .none, .none, .bool false, .none] }) : ObjOk P w H h a (exN a C) :=
 ⟨⟨t, g⟩, ⟨_, g⟩, fun g1 g2 ⟨ws, q1⟩ k => ⟨ws, k _ q1⟩⟩
structure XI (K : PySem.W.Frag) (C f : Addr) : Prop where
 xb : XB K C
 kp : PySem.W.keepIn K (.ref C) = true
 ini : PySem.W.findIn K (.ref C) "__init__" = some (some (.ref f))
 fn : PySem.W.typeIn K (.ref f) = some (.type "function")
 hd : PySem.W.hasDictIn K C = true
 mo : PySem.W.mroIn K C (.type "object") = some true
 sa : PySem.W.findIn K (.ref C) "__setattr__" = some (some (.builtin "object.__setattr__"))
section
variable {prog : Program} {w : World} {A : Around} {E : Value → Shared → Prop} {h : Heap} {g : Array GenState} {d : Drawn} {t : Nat} {os : OsState} {K : PySem.W.Frag}
variable {nm qn : Str} {C N f : Addr} {bs bm bmB : List Value} {hdct : Bool} {sn : List Str} {sub : List Value} {ab : Bool} {col : Option Bool} {dd : Option Addr} {k0 k1 k2 k3 k5 : Option Value} {B nw ini : String}
theorem zang (F : ExcBaseFacts B nw ini bmB) (T : OwnTail h bmB bm) {us : List Value} {Q : Fin → Shared → Prop} (X : K.In h)
  (hC : h.get? C = some (excClassObj nm qn C N bs bm hdct sn sub ab col dd k0 k1 k2 k3 k5 nw)) (hi : PySem.W.findIn K (.ref C) "__init__" = some (some (.ref f))) (hf : PySem.W.typeIn K (.ref f) = some (.type "function"))
  (k : ∀ h' e, Heap.MadeExcOf h h' e (.ref C) us → wpAny (model prog w) A (call (.ref f) (.ref e :: us)) (fun r s' => r = .none ∧ Q (.done (.ret (.ref e))) s') E ⟨h', g, d, t, os⟩) (sz : us.length ≤ sizeLine) :
  wpAny (model prog w) A (Builtin.«type.__call__» ⟨.ref C :: us, []⟩) Q E ⟨h, g, d, t, os⟩ := by
 repeat (first | with_reducible refine wpAny_madeBy_exc hC ?_ | with_reducible refine wpAny_loadPart_at hC ?_ | wp_step)
 refine codeAny_call_builtin_code (Code.quiet_builtin _ F.quiet) (wpAny_check_new_subT F T hC (codeAny_exc_new_subT F T hC ?_ sz))
 let ht := h.push { cls := .type "tuple", data := .seq us.toArray }
 let oe : Obj := { cls := .ref C, data := .fields #[.ref h.objs.size, .none, .none, .none, .bool false, .none] }
 have kp : ∀ b o, h.get? b = some o → (ht.push oe).get? b = some o := fun b o q => Heap.get?_push_of_some _ (Heap.get?_push_of_some _ q)
 have X1 : K.In (ht.push oe) := X.keeps kp
 have ge : (ht.push oe).get? (h.objs.size + 1) = some oe := by
  have := Heap.get?_push_size ht (o := oe) rfl
  rwa [show ht.objs.size = h.objs.size + 1 from Heap.size_push _ _] at this
 have cc : (Value.ref C :: bm).contains (.ref C) = true := by simp
 have hC1 := kp _ _ hC
 show wpAny (model prog w) _ _ _ _ ⟨ht.push oe, g, d, t, os⟩
 unfold isInstance
 repeat (first | with_reducible refine wpAny_loadPart_at ge ?_ | (with_reducible refine wpAny_isSubtype_exc hC1 ?_; rw [cc]) | wp_step)
 show wpAny _ _ (typeLookup (.ref C) _) _ _ _
 refine (PySem.W.looks_findIn X1 hi).here ?_
 refine wpAny_holding (wpAny_bind ((PySem.W.bind_fn X1 (.ref (h.objs.size + 1)) hf).here ?_))
 refine wpAny_bind (wpAny_mono (k _ (h.objs.size + 1) ⟨kp, Heap.get?_none_of_le (Nat.le_succ _), h.objs.size, ge, Heap.get?_none_of_le (Nat.le_refl _), ?_⟩) (fun r s' ⟨e1, q1⟩ => ?_) fun _ _ x => x)
 ·exact Heap.get?_push_of_some _ (Heap.get?_push_size h rfl)
 ·subst e1
  wp_walk
  exact q1
theorem zaj0 (F : ExcBaseFacts B nw ini bmB) (T : OwnTail h bmB bm) {us : List Value} {Q : Value → Shared → Prop} (X : K.In h)
  (hC : h.get? C = some (excClassObj nm qn C N bs bm hdct sn sub ab col dd k0 k1 k2 k3 k5 nw)) (hi : PySem.W.findIn K (.ref C) "__init__" = some (some (.ref f))) (hf : PySem.W.typeIn K (.ref f) = some (.type "function"))
  (k : ∀ h' e, Heap.MadeExcOf h h' e (.ref C) us → wpAny (model prog w) (A.under (.builtin "type.__call__" ⟨.ref C :: us, []⟩)) (call (.ref f) (.ref e :: us)) (fun r s' => r = .none ∧ Q (.ref e) s') E ⟨h', g, d, t, os⟩) (sz : us.length ≤ sizeLine) :
  wpAny (model prog w) A (call (.ref C) us) Q E ⟨h, g, d, t, os⟩ := by
 have l1 := tc_lookup
 have l2 := tc_bind (.ref C)
 have ty : (⟨h, g, d, t, os⟩ : Shared).TypeIs (.ref C) "type" := ⟨_, hC, rfl⟩
 refine wpAny_call (codeAny_of_tree ?_)
 show wpAny _ _ (callAny (.ref C) _) _ _ _
 repeat (any_goals (first | assumption | with_reducible refine wpAny_loadPart_at hC ?_ | wp_step))
 exact ⟨rfl, codeAny_call_builtin_at (Code.quiet_builtin _ (by decide +kernel)) entry_typeCall (wpAny_check_type_call_sub hC (zang F T X hC hi hf (fun h' e m => k h' e m) sz))⟩
theorem zaiq {env : Env} {s : Shared} {x : Sem Value} {Q : Flow → Shared → Prop} (hb : bm.contains (.type "BaseException") = true) (hh : A.handled = none)
  (k : wpAny (model prog w) A x (fun v s₁ => ∃ (e : Addr) (dx : Option Addr) (vs : Array Value) (sl : Array (Option Value)), v = .ref e ∧ s₁.heap.get? C = some (excClassObj nm qn C N bs bm hdct sn sub ab col dd k0 k1 k2 k3 k5 nw) ∧ s₁.heap.get? e = some ⟨.ref C, dx, .fields vs, sl⟩ ∧ vs[1]? = some .none ∧ E (.ref e) s₁) E s) :
  wpAny (model prog w) A (raiseStmt env (some x) none) Q E s := by
 have cB : (Value.ref C :: bm).contains (.type "BaseException") = true := by rw [List.contains_cons, hb, Bool.or_true]
 unfold raiseStmt
 refine wpAny_bind (wpAny_mono k (fun v s₁ ⟨e, dx, vs, sl, e1, hC, he, hv, hE⟩ => ?_) fun _ _ x => x)
 subst e1
 obtain ⟨hp, g, d, tk, os⟩ := s₁
 repeat (first | with_reducible refine wpAny_loadPart_at he ?_ | with_reducible refine wpAny_loadPart_at hC ?_ | (with_reducible refine wpAny_isSubtype_exc hC ?_; rw [cB]) | with_reducible refine wpAny_field he rfl hv ?_ | wp_step)
 exact wpAny_raiseNew_none hh hE
end
end L2

namespace L2
open PySem PySem.Spec PyProof.Rows
open Builtin Builtin.ObjectAttr
def exM (a C dx : Addr) : HO := .ext fun h => ∃ (vs : Array Value) (sl : Array (Option Value)), h.get? a = some ⟨.ref C, some dx, .fields vs, sl⟩ ∧ vs[1]? = some .none ∧ vs[2]? = some .none
theorem zao9 {H : Hp} {a : Addr} {o : HO} (h : H a = some o) : upd H a o = H := by
 funext b; unfold upd; split
 ·rename_i e; rw [e, h]
 ·rfl
theorem zair {h : Heap} {bmB bm : List Value} (T : OwnTail h bmB bm) (self : Value) (what : Str) : refuseLoop self what bm = refuseLoop self what bmB := by
 induction T with
 | base => rfl
 | own _ _ _ _ ih => rw [refuseLoop_ref, ih]
section
variable {X : Cx} {pins : List (Addr × Obj)} {σ : St} {H : Hp} {s : Shared} {ea C f : Addr}
theorem zaj1 {P : Program} {w : World} {h : Heap} (ok : HOk P w H h) (e : H ea = some (exN ea C)) : ∃ t : Addr, h.get? ea = some { cls := .ref C, data := .fields #[.ref t, .none, .none, .none, .bool false, .none] } := (ok ea _ e).1
theorem zalm {A : Around} {E : Value → Shared → Prop} {u : Value} {Q : Value → Shared → Prop} (I : Inv X pins σ H s) (he : H ea = some (exN ea C)) (xb : XB X.K C) (q : ∀ s', Inv X pins σ H s' → Q .none s') :
  wpAny (model X.prog X.w) A (call (.builtin "ValueError.__init__") [.ref ea, u]) Q E s := by
 have F := PySem.F.excBase_ValueError
 obtain ⟨t0, g1⟩ := zaj1 I.hok he
 obtain ⟨bm, N, nm, qn, bs, hdct, sn, sub, ab, col, dd, k0, k1, k2, k3, k5, mN, hC, hN, T⟩ := xb.obj I.kIn
 obtain ⟨h, g, d, t, os⟩ := s
 refine wpAny_call (codeAny_call_builtin F.init.plain F.initEntry (wpAny_check_init_subT F T hC g1 rfl ?_))
 wp_walk
 let hq := (h.push { cls := .type "tuple", data := .seq #[u] }).update ea (Obj.mapFields fun x => x.setIfInBounds 0 (Value.ref h.objs.size))
 have gn : hq.get? ea = some { cls := .ref C, data := .fields #[.ref h.objs.size, .none, .none, .none, .bool false, .none] } := Heap.get?_update_self _ (Heap.get?_push_of_some _ g1) rfl
 have I' := I.write (x := ea) (e := ea) (o := exN ea C) (t' := t) (h' := hq) (by rw [he]; trivial) (.inl rfl) (fun b o n q => (Heap.get?_update_other _ _ (Ne.symm n)).trans (Heap.get?_push_of_some _ q)) ⟨_, gn⟩ (zal6 gn)
 rw [zao9 he] at I'
 exact q _ I'
theorem zanh {A : Around} {E : Value → Shared → Prop} {fl : Str} {y : V} {u : Value} {Q : Unit → Shared → Prop} (hex : X.ex = []) (I : Inv X pins σ H s) (he : H ea = some (exN ea C)) (xi : XI X.K C f) (na : NoAttr X.K C fl) (ry : RelV y u)
  (q : ∀ dx s', H dx = none → dx ≠ ea → Inv X pins σ (upd (upd H ea (exM ea C dx)) dx (.xd [(fl, y)])) s' → Q () s') : wpAny (model X.prog X.w) A (setAttr (.ref ea) fl u) Q E s := by
 obtain ⟨t0, g1⟩ := zaj1 I.hok he
 obtain ⟨bm, N, nm, qn, bs, hdct, sn, sub, ab, col, dd, k0, k1, k2, k3, k5, mN, hC, hN, T⟩ := xi.xb.obj I.kIn
 have hdt : hdct = true := by
  obtain ⟨cd, hc, hd⟩ := PySem.W.any_some xi.hd
  unfold PySem.W.clsIn at hc
  split at hc
  case h_1 ho =>
   cases hc
   have z := (I.kIn _ _ ho).symm.trans hC
   cases z
   exact hd
  case h_2 => cases hc
 subst hdt
 have J : PySem.W.InstAt s.heap ea _ C none := ⟨g1, rfl, rfl, trivial⟩
 have SF := PySem.F.store_ValueError
 refine PySem.W.set_plain I.kIn J xi.sa ?_
 have hm := PySem.W.looks_mroIn (M := model X.prog X.w) I.kIn xi.mo
 refine codeAny_call_builtin SF.slot.plain SF.entry (@PySem.W.check_slot (model X.prog X.w) _ _ _ "object.__setattr__" "object" "__setattr__" (.ref ea) [.str fl s.toks, u] [] _ SF.kind SF.split (J.type.andThen hm) (SF.args (.ref ea) (.str fl s.toks) u) ?_)
 have L1 := PySem.W.looks_findIn (M := model X.prog X.w) I.kIn na
 have hp := SF.passes (.ref ea)
 unfold Builtin.«object.__setattr__»
 clear J
 obtain ⟨ox, eox⟩ : ∃ ox : Obj, ox = { cls := .ref C, data := .fields #[.ref t0, .none, .none, .none, .bool false, .none] } := ⟨_, rfl⟩
 rw [← eox] at g1
 have hc : ox.cls = .ref C := by rw [eox]
 have hdn : ox.dict = none := by rw [eox]
 obtain ⟨h, g, d, t, os⟩ := s
 repeat (first | rw [refuse_eq] | (rw [refuseLoop_ref, zair T, hp]) | (with_reducible refine wpAny_loadPart_at g1 ?_; rw [hc]) | with_reducible refine wpAny_mroOf_exc hC ?_ | with_reducible refine L1.at ?_ | wp_step)
 have hdt : ox.data = .fields #[.ref t0, .none, .none, .none, .bool false, .none] := by rw [eox]
 rw [hdn, hdt]
 dsimp only
 rw [if_neg (by simp [typeHasDict])]
 let h1 := h.push { cls := .type "dict", data := .dict #[] }
 let h2 := h1.update ea fun o => { cls := o.cls, dict := some h.objs.size, data := o.data, slots := o.slots }
 have nx : ea ≠ h.objs.size := Nat.ne_of_lt (Heap.lt_size g1)
 have g2 : h1.get? ea = some ox := Heap.get?_push_of_some _ g1
 refine wpAny_bind (wpAny_alloc' (wpAny_bind (wpAny_update' g2 (wpAny_pure ?_))))
 have g3 : h2.get? ea = some { cls := .ref C, dict := some h.objs.size, data := .fields #[.ref t0, .none, .none, .none, .bool false, .none] } := by
  rw [show h2.get? ea = _ from Heap.get?_update_self _ g2 (by rw [eox]; rfl), eox]
 have g4 : h2.get? h.objs.size = some { cls := .type "dict", data := .dict #[] } := (Heap.get?_update_other _ _ nx).trans (Heap.get?_push_at rfl rfl)
 have n2 : h2.Ns h.objs.size (fun _ => none) := ⟨_, #[], _, g4, rfl, fun e he => absurd he (by simp), fun _ => rfl⟩
 show wpAny _ _ (storeInDict h.objs.size _ fl u) _ _ ⟨h2, g, d, t + 1, os⟩
 unfold storeInDict newKeyGuard
 refine wpAny_bind (wpAny_pure (wpAny_bind (wpAny_nsSet1 (Heap.Ns1.of_empty n2) fun h' n' sb => ?_)))
 obtain ⟨oD, esD, epD, hoD, hdD, hcD⟩ := n'.count (Within.cons fl u Within.nil)
 refine wpAny_bind (wpAny_lookBehind hoD (by rw [hdD]; exact pastItsLine_dict (Nat.le_trans hcD (by rw [List.length_cons, List.length_nil, sizeLine_eq]; omega))) ?_)
 wp_walk
 have I1 : Inv X pins σ H ⟨h1, g, d, t, os⟩ := I.kept (t' := t) fun b o q => Heap.get?_push_of_some _ q
 have I2 := I1.write (x := ea) (e := ea) (o := exM ea C h.objs.size) (t' := t) (h' := h2) (by rw [he]; trivial) (.inl rfl) (fun b o n q => (Heap.get?_update_other _ _ (Ne.symm n)).trans q) ⟨_, g3⟩ ⟨⟨_, _, g3, rfl, rfl⟩, ⟨_, g3⟩, fun a1 a2 ⟨ws, sl, q1, q2⟩ k => ⟨ws, sl, k _ q1, q2⟩⟩
 have fr : H h.objs.size = none := I.hok.fresh (Nat.le_refl _)
 have fr2 : (upd H ea (exM ea C h.objs.size)) h.objs.size = none := by rw [zaax (Ne.symm nx)]; exact fr
 obtain ⟨f0, f1, f2, f3, f4, f5⟩ := I.fpOk (H' := upd H ea (exM ea C h.objs.size)) (b := h.objs.size) (Nat.le_refl _) fr2
 have I3 := I2.turned (it := h.objs.size) (h' := h') (t' := t + 1 + 1) (fun b o hb e => (sb.2 b hb).trans e) f0 f1 f3 f4 f5
 have I4 := I3.track (a := h.objs.size) (o := .xd [(fl, y)]) f0 (I.alien0 hex (Heap.get?_none_of_le (Nat.le_refl _))) f1 f4 f5 ⟨_, n', fun z => by
  show RelO (List.lookup z [(fl, y)]) (if z = fl then some u else none)
  by_cases e : z = fl
  ·subst e; simp only [List.lookup, beq_self_eq_true, if_true]; exact ry
  ·have e' : (z == fl) = false := beq_eq_false_iff_ne.mpr e
   simp only [List.lookup, e', if_neg e]; trivial⟩
 exact q _ _ fr (Ne.symm nx) I4
end
end L2

namespace L2
open PySem PySem.Spec PyProof.Rows
structure ClsIni (K : PySem.W.Frag) (C : Addr) : Prop where
 hg : PySem.W.specialIn K (.ref C) "__getattribute__" = some (some (.builtin "type.__getattribute__"))
 rd : PySem.W.readsIn K C (.type "type") = true
 fd : PySem.W.findCls K (.ref C) (.type "type") "__init__" = some (.val (.builtin "ValueError.__init__"))
def tBinit (K : PySem.W.Frag) (t : TA) : TE := fun σ H Q => t σ H fun vs H1 => ∃ ea C v, vs = [.ref ea, v] ∧ H1 ea = some (exN ea C) ∧ XB K C ∧ Q .non H1
def sFldX (K : PySem.W.Frag) (ta tv : TE) (fl : Str) : TS := fun D σ H => tv σ H fun y H1 => ta σ H1 fun x H2 => ∃ ea C f, x = .ref ea ∧ H2 ea = some (exN ea C) ∧ XI K C f ∧ NoAttr K C fl ∧
 ∀ dx, H2 dx = none → dx ≠ ea → D.nx σ (upd (upd H2 ea (exM ea C dx)) dx (.xd [(fl, y)]))
section
variable {X : Cx} {x : Str} {p pos apos pos' : Pos} {e o value : Expr} {es : List Expr} {t : TA} {ta tv : TE} {fl : Str}
theorem zaj2 {CB : Addr} {pl : Sem Bool} (hm : X.mg x = some (.ref CB)) (ci : ClsIni X.K CB) (hg : Gl X x) (ha : Pr (PA X (e :: es) t)) (hdb : (x == ("__debug__" : Str)) = false := by decide)
  (hst : starEach (e :: es) X.env = (false, eval e X.env) :: starEach es X.env := by rfl) (hpl : (backTo pos (starEach es X.env)).any (·.1) = false := by rfl)
  (ht : eval (.Call (.Attribute (.Name x p) "__init__" apos) (e :: es) [] pos) X.env = (do
   let ov ← eval (.Name x p) X.env
   standAt apos.atName
   let (f, first) ← holding [ov] (getMethod ov "__init__" pl)
   callWith pos f first (backTo pos (starEach (e :: es) X.env)) (backToKw pos (keywordEach [] X.env))) := by rfl) :
  Pr (PE X (.Call (.Attribute (.Name x p) "__init__" apos) (e :: es) [] pos) (tBinit X.K t)) := by
 refine ⟨?_⟩
 intro pins s σ H Q I h
 have hn : PE X (.Name x p) (fun σ H Q => Q (.ref CB) H) := zaix (v := .ref CB) hg hm rfl hdb
 refine PySem.W.methodCall_KW (pl := pl) (thn (hn pins s σ H (fun v H' => v = .ref CB ∧ H' = H) I ⟨rfl, rfl⟩) fun u s1 ⟨v, H1, I1, rx, e1, e2⟩ => ?_) ht
 subst e1
 subst e2
 obtain rfl : u = Value.ref CB := rx
 refine PySem.W.method_cls I1.kIn ci.hg (PySem.W.cls_value I1.kIn ci.rd ci.fd rfl ?_)
 refine PyProof.Rows.callWith_builtin1 (thn (ha.h pos pins _ σ H1 _ (I1.tok _) h) fun us s2 ⟨vs, H2, I2, r, ea, C, v, e2, he, xb, q2⟩ => ?_) hst hpl
 subst e2
 obtain ⟨u1, u2, rfl, r1, r2⟩ := vals2 r
 obtain rfl : u1 = Value.ref ea := r1
 exact zalm I2 he xb fun s' I' => ⟨.non, H2, I', rfl, q2⟩
theorem zaln (hex : X.ex = []) (ha : Pr (PE X o ta)) (hv : Pr (PE X value tv)) (hs : swapsWith value (some (.Attribute o fl pos')) pos.line X.env = pure false := by rfl) : Pr (PS X (.Assign [.Attribute o fl pos'] value pos) (sFldX X.K ta tv fl)) := by
 refine ⟨?_⟩
 intro pins s σ H D I h
 refine plainObj_wpAny_Assign_Attribute (thn (hv.h pins s σ H _ I h) fun u s1 ⟨y, H1, I1, ry, q⟩ => thn (ha.h pins s1 σ H1 _ I1 q) fun ov s2 ⟨x, H2, I2, rx, ea, C, f, ex, he, xi, na, q2⟩ => ?_) hs
 subst ex
 obtain rfl : ov = Value.ref ea := rx
 exact zanh hex I2 he xi na ry fun dx s' n1 n2 I' => ⟨σ, _, I', q2 dx n1 n2⟩
end
def rmv (H : Hp) (a : Addr) : Hp := fun b => if b = a then none else H b
theorem zaer {H : Hp} {a b : Addr} (h : b ≠ a) : rmv H a b = H b := by unfold rmv; rw [if_neg h]
section
variable {X : Cx} {pins : List (Addr × Obj)} {σ : St} {H : Hp} {s : Shared}
theorem Inv.untrack {a : Addr} {φ : Heap → Prop} (I : Inv X pins σ H s) (ha : H a = some (.ext φ)) (n0 : X.s₀.heap.get? a = none) : Inv X pins σ (rmv H a) s := by
 have nt : ∀ b xs, H b = some (.tup xs) → b ≠ a := fun b xs e z => by rw [z, ha] at e; cases e
 have no : ∀ b y, H b = some (.own y) → b ≠ a := fun b xs e z => by rw [z, ha] at e; cases e
 refine ⟨I.ok, I.os, I.bare, ⟨I.base.keep, I.base.slot, fun b o' e n hx => ?_, I.base.there, fun b xs e => ?_, fun b o' u e => ?_, fun b ps e => ?_⟩, I.loc, I.cell, ?_, fun x c e => ?_, fun p hp => ?_, fun b u e => ?_, I.len⟩
 ·unfold rmv; split
  ·rfl
  ·exact I.base.free b o' e n hx
 ·have q := I.base.tups b xs e
  rw [zaer (nt b xs q)]; exact q
 ·have q := I.base.frzs b o' u e
  rw [zaer (fun z => by rw [z, ha] at q; cases q)]; exact q
 ·obtain ⟨more, q⟩ := I.base.tbls b ps e
  exact ⟨more, by rw [zaer (fun z => by rw [z, ha] at q; cases q)]; exact q⟩
 ·unfold rmv; split
  ·rfl
  ·exact I.free
 ·unfold rmv; split
  ·rfl
  ·exact I.freeC x c e
 ·obtain ⟨q1, q2, q3⟩ := I.pin p hp
  refine ⟨q1, ?_, q3⟩
  unfold rmv; split
  ·rfl
  ·exact q2
 ·have hb : b ≠ a := fun z => by rw [z] at e; unfold rmv at e; rw [if_pos rfl] at e; cases e
  rw [zaer hb] at e
  exact (I.hok b u e).stay (fun _ _ _ q => q) (fun c q => by rw [zaer (no c _ q)]; exact q) fun c xs q => by rw [zaer (nt c _ q)]; exact q
end
section
variable {P : Program} {w : World} {K : PySem.W.Frag} {mg : Str → Option Value} {base : Heap} {N : List Str} {qual : Str} {scope : Scope} {f : Addr} {cd : Value} {A : Around} {outer : List Env} {s₀ : Shared} {H₀ : Hp} {E : XK}
theorem zap1 {pins : List (Addr × Obj)} {σ : St} {H : Hp} {s : Shared} {e C : Addr} {dx : Option Addr} {vs : Array Value} {sl : Array (Option Value)} (I : Inv (cxE P w K mg base N qual scope f cd A outer s₀ H₀ E) pins σ H s) (ge : s.heap.get? e = some ⟨.ref C, dx, .fields vs, sl⟩) (v1 : vs[1]? = some .none) (v2 : vs[2]? = some .none)
  (n0 : s₀.heap.get? e = none) (nH : H e = none) (q : E (.ref C) dx H) : (cxE P w K mg base N qual scope f cd A outer s₀ H₀ E).xe (.ref e) s := by
 show wpAny (model P w) _ (leaving _ (.ref e)) _ _ _
 unfold leaving
 refine wpAny_bind (zale I.ok.frames I.stack rfl ge ⟨rfl, rfl⟩ rfl v1 v2 fun h2 T kb fl nT => zag6 fl fun h3 kb3 fl3 => ?_)
 have k3 : KB [e, T] (frs (envOfC qual scope s₀.heap.objs.size f cd :: outer)) s.heap h3 := kb.trans kb3.fs
 have m0 : ∀ b ∈ [e, T], s₀.heap.get? b = none := fun b hb => by
  simp only [List.mem_cons, List.not_mem_nil, or_false] at hb
  rcases hb with rfl | rfl
  ·exact n0
  ·exact I.alien0 rfl nT
 have mH : ∀ b ∈ [e, T], H b = none := fun b hb => by
  simp only [List.mem_cons, List.not_mem_nil, or_false] at hb
  rcases hb with rfl | rfl
  ·exact nH
  ·exact I.hok.alien nT
 exact ⟨e, C, T, dx, H, rfl, I.os, I.bare, I.base.fly k3 m0 (zao4 I), I.hok.fly k3 mH I.stkFree, fl3, n0, m0 T (by simp), nH, mH T (by simp), q⟩
end
def spXI (C : Addr) (fl : Str) : Sp := fun vs H Q _ => ∃ ea v, vs = [.ref ea, v] ∧ H ea = some (exN ea C) ∧ ∀ dx, H dx = none → dx ≠ ea → Q .non (upd (upd H ea (exM ea C dx)) dx (.xd [(fl, v)]))
structure RaiseOk (P : Program) (w : World) (K : PySem.W.Frag) (mg : Str → Option Value) (base : Heap) (k : Nat) (x : Str) (C : Addr) (fl : Str) : Prop where
 ex : ∃ (f : Addr) (fd : FuncData) (ps : List Str), FnOk P w K mg base CX0 k f fd ps (spXI C fl) ∧ Binds K fd ps [] ∧ XI K C f ∧ mg x = some (.ref C)
theorem RaiseOk.mono {P : Program} {w : World} {K : PySem.W.Frag} {mg : Str → Option Value} {base : Heap} {j k : Nat} {x : Str} {C : Addr} {fl : Str} (D : RaiseOk P w K mg base j x C fl) (h : j ≤ k) : RaiseOk P w K mg base k x C fl := by
 obtain ⟨f, fd, ps, F, b⟩ := D.ex
 exact ⟨f, fd, ps, F.mono h, b⟩
def tRaiseI (C : Addr) (fl : Str) (E : XK) (t : TA) : TS := fun _ σ H => t σ H fun vs H1 => ∃ v, vs = [v] ∧ ∀ dx, H1 dx = none → E (.ref C) (some dx) (upd H1 dx (.xd [(fl, v)]))
section
variable {P : Program} {w : World} {K : PySem.W.Frag} {mg : Str → Option Value} {base : Heap} {N : List Str} {qual : Str} {scope : Scope} {f : Addr} {cd : Value} {A : Around} {outer : List Env} {s₀ : Shared} {H₀ : Hp} {E : XK}
theorem zae9 {x fl : Str} {C : Addr} {k : Nat} {np cpos pos : Pos} {e₀ : Expr} {ta : TA} (D : RaiseOk P w K mg base k x C fl) (hr : Room (k + 1) (cxE P w K mg base N qual scope f cd A outer s₀ H₀ E).A) (hg : Gl (cxE P w K mg base N qual scope f cd A outer s₀ H₀ E) x)
  (ha : Pr (PA (cxE P w K mg base N qual scope f cd A outer s₀ H₀ E) [e₀] ta)) (hdb : (x == ("__debug__" : Str)) = false := by decide)
  (he : starEach [e₀] (cxE P w K mg base N qual scope f cd A outer s₀ H₀ E).env = [(false, eval e₀ (cxE P w K mg base N qual scope f cd A outer s₀ H₀ E).env)] := by rfl) :
  Pr (PS (cxE P w K mg base N qual scope f cd A outer s₀ H₀ E) (.Raise (some (.Call (.Name x np) [e₀] [] cpos)) none pos) (tRaiseI C fl E ta)) := by
 refine ⟨?_⟩
 intro pins s σ H D' I h
 obtain ⟨fi, fd, ps, Fi, hb, xi, hm⟩ := D.ex
 have F := PySem.F.excBase_ValueError
 obtain ⟨bm, Nc, nm, qn, bs, hdct, sn, sub, ab, col, dd, k0, k1, k2, k3, k5, mN, hC, hN, T⟩ := xi.xb.obj I.mod.kin
 rw [arm_exec_Raise]
 refine wpAny_bind (wpAny_standAt (zaiq (C := C) (nm := nm) (qn := qn) (N := Nc) (bs := bs) (bm := bm) (hdct := hdct) (sn := sn) (sub := sub) (ab := ab) (col := col) (dd := dd) (k0 := k0) (k1 := k1) (k2 := k2) (k3 := k3) (k5 := k5) (nw := "ValueError.__new__") (T.hasType F.hasBase) (I.ok.hd rfl) ?_))
 refine wpAny_bind (wpAny_mono (wpAny_Call_ofName (zadd I hg hm ?_ hdb)) (fun v s₃ h₃ => wpAny_bind (wpAny_standAt (wpAny_pure h₃))) fun _ _ x => x)
 refine PySem.W.callWith_K (h₀ := base) I.mod.kin xi.kp (thn (ha.h cpos pins s σ H _ I h) fun us s1 ⟨vs, H1, I1, r, v, e1, q1⟩ => ⟨I1.kIn, ?_⟩) he rfl
 subst e1
 obtain ⟨u, rfl, ru⟩ := vals1 r
 obtain ⟨hp, g, d, tk, os⟩ := s1
 refine zaj0 F (T.keeps I1.bk) I1.kIn (I1.bk _ _ hC) xi.ini xi.fn (fun h' e m => ?_) (by show 1 ≤ sizeLine; rw [sizeLine_eq]; decide)
 have I2 : Inv (cxE P w K mg base N qual scope f cd A outer s₀ H₀ E) pins σ H1 ⟨h', g, d, tk, os⟩ := I1.kept (t' := tk) m.keeps
 have n1 : H1 e = none := I1.hok.alien m.new
 have n0 : s₀.heap.get? e = none := I1.alien0 rfl m.new
 obtain ⟨a1, a2, a3⟩ := I1.alien m.new
 obtain ⟨t, ge, _, _⟩ := m.there
 have I3 := I2.track (a := e) (o := exN e C) n1 n0 a1 a2 a3 (zal6 ge)
 have hq : spXI C fl [.ref e, v] (upd H1 e (exN e C)) (fun y H2 => y = .non ∧ ∃ dx, H1 dx = none ∧ dx ≠ e ∧ H2 = upd (upd (upd H1 e (exN e C)) e (exM e C dx)) dx (.xd [(fl, v)])) E0 :=
  ⟨e, v, rfl, zaak, fun dx n ne => ⟨rfl, dx, by rwa [zaax ne] at n, ne, rfl⟩⟩
 have r2 : Vals [V.ref e, v] [Value.ref e, u] := .cons rfl (.cons ru .nil)
 have hl : ([Value.ref e, u] ++ []).length = ps.length := Fi.len _ _ _ _ hq
 have bt := hb _ [Value.ref e, u] I3.kIn hl
 rw [List.append_nil] at bt
 refine wpAny_call (codeAny_mono (Fi.run _ (cxE P w K mg base N qual scope f cd A outer s₀ H₀ E).stack _ _ ⟨[Value.ref e, u], []⟩ [Value.ref e, u] _ _ _ (hr.make C [u] []) (I3.env0.make C [u] []) bt r2 hq) fun r s' hq' => ?_)
 cases r with
 | error z => exact False.elim hq'
 | ok z =>
  cases z with
  | ret u' =>
   obtain ⟨y, H', I4, ry, ey, dx, nd, ne, eH⟩ := I3.after hq'
   subst ey
   obtain rfl : u' = Value.none := ry
   have hE : H' e = some (exM e C dx) := by rw [eH, zaax (Ne.symm ne), zaak]
   obtain ⟨vs', sl, ge', v1, v2⟩ := (I4.hok e _ hE).1
   have I5 := I4.untrack hE n0
   have e5 : rmv H' e = upd H1 dx (.xd [(fl, v)]) := by
    funext b
    by_cases hb : b = e
    ·subst hb
     unfold rmv
     rw [if_pos rfl, zaax (Ne.symm ne), n1]
    ·rw [zaer hb, eH]
     by_cases hd : b = dx
     ·subst hd; rw [zaak, zaak]
     ·rw [zaax hd, zaax hd, zaax hb, zaax hb]
   rw [e5] at I5
   exact ⟨rfl, ⟨e, some dx, vs', sl, rfl, I4.bk _ _ hC, ge', v1, zap1 I5 ge' v1 v2 n0 (by rw [zaax (Ne.symm ne)]; exact n1) (q1 dx nd)⟩⟩
  | next => exact False.elim hq'
  | brk => exact False.elim hq'
  | cont => exact False.elim hq'
end
end L2

namespace L2
open PySem PySem.Spec PyProof.Rows PySem.W
section
variable {prog : Program} {w : World} {A : Around} {E : Value → Shared → Prop} {s : Shared} {K : Frag} {x C : Addr} {ox : Obj} {od : Option Obj} {fl : Str}
theorem zaj3 {v : Value} {Q : Value → Shared → Prop} (X : K.In s.heap) (xa : XA K C) (I : InstAt s.heap x ox C od) (hf : findObj K C od fl = some (.value v)) (hv : handedIn v = true) (h : Q v { s with toks := s.toks + 1 }) : wpAny (model prog w) A (getAttr (.ref x) fl true) Q E s := by
 obtain ⟨bm, N, nm, qn, bs, hdct, sn, sub, ab, col, dd, k0, k1, k2, k3, k5, mN, hC, hN, T⟩ := xa.xc.obj X
 obtain ⟨hh, g, d, t, os⟩ := s
 have L0 := I.type (M := model prog w)
 have L1 := looks_findIn (M := model prog w) X xa.ga
 have L2 := looks_findIn (M := model prog w) X xa.gt
 have L3 := looks_find (M := model prog w) X I hf
 have f3 := PySem.F.attr_ValueError.ga.bind (.ref x)
 unfold getAttr getAttrBy
 refine wpAny_bind (wpAny_mkText (wpAny_holding (wpAny_bind (L0.at (wpAny_bind (L1.at ?_))))))
 dsimp only
 have b0 : (Value.builtin "BaseException.__getattribute__" == Value.builtin "object.__getattribute__") = false := by decide +kernel
 rw [if_neg (by rw [b0, Bool.and_false]; exact Bool.false_ne_true)]
 unfold getAttrByItsOwn hookBefore
 rw [if_pos (show onTheHeap (Value.ref C) = true from rfl)]
 refine wpAny_bind (L2.at (wpAny_bind (wpAny_attempt (wpAny_holding ?_))))
 unfold callGetattribute
 rw [if_neg (by decide +kernel)]
 unfold boundAndCalled
 refine wpAny_bind (wpAny_of_eq f3 ?_)
 refine wpAny_call (codeAny_call_builtin PySem.F.attr_ValueError.ga.plain PySem.F.entry_bexc_ga ?_)
 have y1 : builtinKind "BaseException.__getattribute__" = some .slot := by decide +kernel
 have y2 : splitId "BaseException.__getattribute__" = some ("BaseException", "__getattribute__") := by decide +kernel
 have y3 : (Value.ref C :: bm).contains (.type "BaseException") = true := by rw [List.contains_cons, T.hasType PySem.F.excBase_ValueError.hasBase, Bool.or_true]
 have y4 := PySem.F.args_bexc_ga (.ref x) (.str fl t)
 have gx := I.at_
 have gc := I.cls
 simp only [checkBuiltinCall, y1, y2]
 refine wpAny_bind ?_
 unfold isInstance
 repeat (first
  | with_reducible refine wpAny_bind (L3.at ?_)
  | with_reducible refine L3.at ?_
  | (with_reducible refine wpAny_loadPart_at gx ?_; rw [gc])
  | (with_reducible refine wpAny_isSubtype_exc hC ?_; rw [y3])
  | wp_step)
 exact handed_on hv h
end
def tFldX (K : PySem.W.Frag) (ta : TE) (f : Str) : TE := fun σ H Q => ta σ H fun x H1 => ∃ ea C dx fs v, x = .ref ea ∧ H1 ea = some (exO ea C (some dx)) ∧ H1 dx = some (.xd fs) ∧ XA K C ∧ hasDictIn K C = true ∧ NoAttr K C f ∧ fs.lookup f = some v ∧ Q v H1
theorem zalo {X : Cx} {e : Expr} {f : Str} {pos : Pos} {ta : TE} (he : Pr (PE X e ta)) (hb : attributeBase e f X.env (eval e X.env) = eval e X.env := by rfl) : Pr (PE X (.Attribute e f pos) (tFldX X.K ta f)) := by
 refine ⟨?_⟩
 intro pins s σ H Q I h
 refine zai8 hb (thn (he.h pins s σ H _ I h) fun u s1 ⟨x, H1, I1, rx, ea, C, dx, fs, v, ex, ea1, hd, xa, hh, na, l, q⟩ => ?_)
 subst ex
 obtain rfl : u = Value.ref ea := rx
 obtain ⟨o, vs, g1, ⟨g2, g3⟩, g4, _⟩ := zag7 I1.hok ea1
 obtain ⟨mA, ns, rel⟩ := (I1.hok dx _ hd : ObjOk X.prog X.w H1 s1.heap dx (.xd fs))
 obtain ⟨od, go, hl⟩ := zagc ns
 have J : InstAt s1.heap ea o C (some od) := ⟨g1, g2, by unfold notCls; rw [g4], by rw [g3]; exact go⟩
 have r1 := rel f
 rw [l] at r1
 cases hv : mA f with
 | none => rw [hv] at r1; exact r1.elim
 | some u' =>
  rw [hv] at r1
  exact zaj3 I1.kIn xa J (findObj_own hh na rfl (by rw [hl, hv])) (zagd r1) ⟨v, H1, I1.tok _, r1, q⟩
end L2

namespace L2
open PySem PySem.Spec PyProof.Rows PySem.SeqAt
section
variable {X : Cx}
def rEqE : R2 := fun x y H Q => ∃ (a b : Addr) (xs : List V), x = .ref a ∧ y = .ref b ∧ H a = some (.lst xs) ∧ H b = some (.lst []) ∧ Q (.bl xs.isEmpty) H
def rCatU (K : PySem.W.Frag) : R2 := fun x y H Q => ∃ a b xs ys, x = .ref a ∧ y = .ref b ∧ SqT K H a xs ∧ H b = some (.tup ys) ∧ ys ≠ [] ∧ xs.length + ys.length ≤ sizeLine ∧ ∀ t H', Ch [] H H' → H' t = some (.tup (xs ++ ys)) → Q (.ref t) H'
def rCatG : R2 := fun x y H Q => ∃ a b xs ys, x = .ref a ∧ y = .ref b ∧ H a = some (.tup xs) ∧ H b = some (.tup ys) ∧ xs ≠ [] ∧ xs.length + ys.length ≤ sizeLine ∧ ∀ t H', Ch [] H H' → H' t = some (.tup (xs ++ ys)) → Q (.ref t) H'
theorem zacu : OpR X (binaryOp .Add) rCatG := by
 intro pins s σ H x y v u Q I rx ry h
 obtain ⟨a, b, xs, ys, rfl, rfl, ha, hb, hx, hz, q⟩ := h
 exact zamu pins s σ H _ _ v u Q I rx ry ⟨a, b, xs, ys, rfl, rfl, .of ha, .of hb, hx, hz, fun e => q a H (Ch.refl _ _) (by rw [e, List.append_nil]; exact ha), fun _ p hp => q p _ (Ch.new hp _) zaak⟩
def rRepT (K : PySem.W.Frag) : R2 := fun x y H Q => ∃ (a : Addr) (k : Nat) (xs : List V), x = .ref a ∧ y = .int (k : Int) ∧ SqT K H a xs ∧ xs ≠ [] ∧ 2 ≤ k ∧ k ≤ 1000 ∧ xs.length * k ≤ 100000 ∧ ∀ p, H p = none → Q (.ref p) (upd H p (.tup (List.replicate k xs).flatten))
end
end L2

namespace HT
open PySem PySem.Spec PyProof.Rows L2
section
variable {prog : Program} {w : World} {A : Around} {E : _} {s : Shared}
theorem whole_tup {t sl : Addr} {its : Array Value} {vl vu : Value} {lo hi : Option Int} {Q : Value → Shared → Prop} (it : IsTup s.heap t its) (is : s.heap.IsSliceOf sl vl vu .none) (pl : IsPart vl lo) (pu : IsPart vu hi) (z0 : sIx its.size 0 lo = 0) (z1 : sIx its.size its.size hi = its.size) (h : Q (.ref t) s) : wpAny (model prog w) A (getItem (.ref t) (.ref sl)) Q E s := by
 obtain ⟨o, ho, hc, _⟩ := id is
 unfold getItem
 try with_reducible refine wpAny_holding ?_
 first | refine wpAny_bind (wpAny_pure ?_) | skip
 refine wpAny_bind (wpAny_sequenceKey it.typeIs (by decide) (wpAny_bind (wpAny_callSpecial?_slot (name := Str.ofString "__getitem__") it.typeIs slot_tuple_getitem (wpAny_call_entry slot_tuple_getitem it.typeIs entry_tuple_getitem ?_ (args_tuple_getitem _ _)))))
 refine wpAny_bind (m := Builtin.Tuple.tupleItemsOf (.ref t)) (tupleItemsOf_ it (wpAny_bind (wpAny_typeOf (show s.TypeIs (.ref sl) "slice" from ⟨o, ho, hc⟩) ?_)))
 rw [if_pos (by decide)]
 refine wpAny_bind (zac6 is pl pu ?_)
 show wpAny _ _ (if (((sIx its.size 0 lo : Nat) : Int) == 0 && (1 : Int) == 1 && (sIx its.size its.size hi - sIx its.size 0 lo) == its.size) = true then _ else _) _ _ s
 rw [z0, z1, if_pos (by simp)]
 refine wpAny_bind (wpAny_bind (wpAny_typeOf it.typeIs ?_))
 refine wpAny_pure ?_
 rw [if_pos (by decide)]
 refine wpAny_bind (wpAny_rule ?_)
 exact wpAny_pure ⟨_, rfl, wpAny_pure h⟩
end
end HT
namespace L2
open PySem PySem.Spec PyProof.Rows
section
variable {X : Cx}
def rSlU : V → Option Int → Option Int → Hp → VK → Prop := fun x lo hi H Q => ∃ a xs, x = .ref a ∧ H a = some (.tup xs) ∧ ∀ t H', Ch [] H H' → H' t = some (.tup (cutV xs lo hi)) → Q (.ref t) H'
theorem zacv : SlR X rSlU := by
 intro pins s σ H x v vl vu lo hi sl Q I rx hs pl pu h
 obtain ⟨a, xs, rfl, ga, q⟩ := h
 have hx : SqT X.K H a xs := .of ga
 by_cases e : HT.sIx xs.length 0 lo = 0 ∧ HT.sIx xs.length xs.length hi = xs.length
 ·cases rx
  obtain ⟨its, r, ht, _⟩ := I.tuple hx
  have hl : its.toArray.size = xs.length := by rw [List.size_toArray]; exact r.length.symm
  exact ⟨"tuple", _, slot_tuple_getitem.lookup, ht.typeIs, HT.whole_tup ht hs pl pu (by rw [hl]; exact e.1) (by rw [hl]; exact e.2) ⟨.ref a, H, I, rfl, q a H (Ch.refl _ _) (by rw [ga]; unfold cutV; rw [e.1, e.2, Nat.sub_zero, List.drop_zero, List.take_length])⟩⟩
 ·exact zahu pins s σ H _ v vl vu lo hi sl Q I rx hs pl pu ⟨a, xs, rfl, hx, e, fun p hp => q p _ (Ch.new hp _) zaak⟩
end
end L2

set_option maxHeartbeats 4000000
namespace B17
open PySem L2
abbrev Vs (sc : Scope) (x : Str) : Prop := sc.names.lookup x = some NameKind.local ∨ sc.names.lookup x = some NameKind.cell ∨ sc.names.lookup x = some NameKind.free
abbrev Lc (sc : Scope) (x : Str) : Prop := sc.names.lookup x = some NameKind.local ∨ sc.names.lookup x = some NameKind.cell
abbrev Gi (sc : Scope) (x : Str) : Prop := sc.names.lookup x = some NameKind.globalImplicit
abbrev Nd (x : Str) : Prop := (x == ("__debug__" : Str)) = false
abbrev Nc (x : Str) : Prop := (x == ("__classdict__" : Str)) = false
local macro_rules | `(tactic| walk_at "few") => `(tactic| (with_reducible show (List.length (α := Str × V) _) < 1000); first | exact (by decide : 0 < 1000) | exact (by decide : 1 < 1000) | exact (by decide : 2 < 1000) | exact (by decide : 3 < 1000) | exact (by decide : 4 < 1000) | exact (by decide : 5 < 1000) | exact (by decide : 6 < 1000))
local macro_rules | `(tactic| walk_at "get") => `(tactic| first
 | with_reducible assumption
 | exact zaak
 | (apply zaa3; (focus with_reducible assumption); (focus walk_at "get"))
 | (apply zacc; (focus walk_at "ne"); (focus walk_at "get"))
 | (apply Ch.get; (focus with_reducible assumption); (focus walk_at "get"); (focus walk_at "notin")))
local macro_rules | `(tactic| walk_at "ne") => `(tactic| first | with_reducible assumption | (apply Ne.symm; with_reducible assumption) | (apply zamb; (focus with_reducible assumption); (focus with_reducible assumption); (focus (intro z; cases z))))
local macro_rules | `(tactic| walk_at "notin") => `(tactic| first | exact List.not_mem_nil | (simp only [List.mem_cons, List.not_mem_nil, or_false, not_or, not_false_eq_true]; first | walk_at "ne" | trivial))
local macro_rules | `(tactic| walk_at "scr") => `(tactic| first
 | with_reducible assumption
 | (apply Scr.ch; (focus with_reducible assumption); (focus with_reducible assumption); (focus walk_at "ch"))
 | (apply Scr.same; (focus with_reducible assumption); (focus walk_at "ch")))
local macro_rules | `(tactic| walk_at "ch") => `(tactic| first
 | with_reducible assumption
 | exact Ch.refl _ _
 | exact Ch.put
 | (apply Ch.new; with_reducible assumption)
 | (apply Ch.wk; with_reducible assumption)
 | (apply Ch.own; (focus with_reducible assumption); (focus walk_at "ch"))
 | (apply Ch.trans; (rotate_left; focus with_reducible assumption); (focus walk_at "ch"))
 | (apply Ch.trans; (rotate_left; focus (apply Ch.wk; with_reducible assumption)); (focus walk_at "ch"))
 | (apply Ch.trans; (rotate_left; focus exact Ch.put); (focus walk_at "ch"))
 | (apply Ch.trans; (rotate_left; focus (apply Ch.new; with_reducible assumption)); (focus walk_at "ch")))
local macro_rules | `(tactic| walk_at "sq") => `(tactic| first
 | (apply Scr.sq; walk_at "scr")
 | (apply Exists.intro; walk_at "sq")
 | (refine (‹∀ H : Hp, SqT _ H _ _›) _)
 | (apply SqL.of; walk_at "get")
 | (apply SqT.of; walk_at "get")
 | (apply Or.inl; apply Scr.sq; walk_at "scr")
 | (apply Or.inl; apply SqL.of; walk_at "get")
 | (apply Or.inr; apply SqT.of; walk_at "get"))
local macro_rules | `(tactic| walk_at "arith") => `(tactic| first
 | omega
 | (simp only [List.length_map, List.length_cons, List.length_nil, List.length_append, List.length_singleton, List.length_replicate]; done)
 | ((try dsimp only); (try simp only [List.length_map, List.length_cons, List.length_nil, List.length_append, List.length_singleton, List.length_replicate, sizeLine_eq]); omega)
 | ((try dsimp only); (try simp only [List.length_map, List.length_cons, List.length_nil, List.length_append, List.length_singleton, List.length_replicate, sizeLine_eq] at *); omega))
local macro_rules | `(tactic| walk_at "cond") => `(tactic| first
 | (refine Or.inl (And.intro ?_ ?_) <;> walk_at "arith")
 | (refine Or.inr (And.intro ?_ ?_) <;> walk_at "arith")
 | (refine And.intro ?_ (And.intro ?_ ?_) <;> walk_at "arith")
 | (refine And.intro ?_ ?_ <;> walk_at "arith"))
local macro_rules | `(tactic| walk_at "len") => `(tactic| first
 | with_reducible assumption
 | exact len_one
 | (apply len_slice; walk_at "len")
 | (apply len_app; (focus walk_at "len"); (focus walk_at "len"))
 | exact Nat.le_refl _)
local macro_rules | `(tactic| walk_at "lens") => `(tactic| first
 | (apply len_sum; (focus walk_at "len"); (focus walk_at "len"); (focus first | decide +kernel | walk_at "arith"))
 | (apply len_top; (focus walk_at "len"); (focus first | decide +kernel | walk_at "arith")))
local macro_rules | `(tactic| walk_at "side") => `(tactic| first
 | with_reducible rfl | with_reducible assumption | walk_at "sq" | walk_at "get" | walk_at "scr" | walk_at "ch" | walk_at "ty" | exact TyOf.int _ | exact TyOf.str _ | (apply TyOf.tup; walk_at "get") | (apply TyOf.lst; walk_at "get") | exact TyOf.bl _ | exact TyOf.non | walk_at "few" | decide | omega | walk_at "arith" | walk_at "cond" | ((try simp only [List.length_map]); with_reducible assumption) | walk_at "lens" | (apply Or.inr; with_reducible assumption) | walk_at "user" | exact rfl | assumption)
local macro_rules | `(tactic| walk_at "ty") => `(tactic| (refine Or.inl (And.intro rfl ?_); apply Exists.intro; walk_at "sq"))
local macro_rules | `(tactic| walk_at "user") => `(tactic| fail)
local macro_rules | `(tactic| walk_at "rd1") => `(tactic| first
 | apply Exists.intro
 | (refine And.intro rfl ?_)
 | (refine And.intro (show V.str _ = L2.kV (Sum.inr _) from rfl) ?_)
 | (refine And.intro (show V.int _ = L2.kV (Sum.inl _) from rfl) ?_)
 | (refine And.intro (L2.zak7 _ _) ?_)
 | (apply And.intro; (focus (walk_at "side"; done)))
 | apply Atx.head
 | (apply Atx.of; (focus first | exact rfl | with_reducible assumption | ((try simp only [List.length_map]); with_reducible assumption)))
 | (apply Or.inl; apply Exists.intro; (refine And.intro rfl ?_))
 | (apply Or.inr; apply Exists.intro; (refine And.intro rfl ?_))
 | (apply Or.inl; apply And.intro; (focus walk_at "sq"))
 | (apply Or.inr; apply And.intro; (focus walk_at "sq"))
 | (intro _)
 | walk_at "fin")
local macro_rules | `(tactic| walk_at "fin") => `(tactic| first | exact rfl | (walk_at "get"; done))
local macro_rules | `(tactic| walk_at "rd") => `(tactic| repeat walk_at "rd1")
section
def top (i : Nat) : Stmt := PySem.Challenge.pw_bitfloor_k15_nets_made.main.body.getD i (.Pass ⟨0, 0, 0, 0⟩)
theorem chFree {H H' : Hp} (c : Ch [] H H') {r : Addr} (h : H' r = none) : H r = none := by
 cases e : H r with
 | none => rfl
 | some o => rw [c r o e (by simp)] at h; cases h
structure Box (Pd : Prop) : Prop where
 h : Pd
inductive Th : V → Prop
 | int (i : Int) : Th (.int i)
 | non : Th .non
 | bl (b : Bool) : Th (.bl b)
 | str (x : Str) : Th (.str x)
def isI : V → Bool
 | .int _ => true
 | _ => false
def belB (v : V) (b : Int) : Bool := match v with
 | .int i => decide (0 ≤ i) && decide (i < b)
 | _ => false
def FC : List (Str × Int) := [("in", 0), ("zero", 0), ("one", 0), ("not", 1), ("and", 2), ("or", 2), ("xor", 2), ("pick", 3)]
inductive GV
 | tup (xs : List V)
 | oth
def GvAt (H : Hp) (v : V) : GV → Prop
 | .tup xs => ∃ p, v = .ref p ∧ H p = some (.tup xs) ∧ (∀ x ∈ xs, Th x) ∧ xs.length ≤ 10
 | .oth => Th v ∨ ∃ p ys, v = .ref p ∧ H p = some (.lst ys)
def gateB (xs : List V) (a n : Int) : Bool := match xs with
 | .str w :: r => if w = Str.ofString "keep" then (match r with
   | [x, y] => belB x 2 && belB y n
   | _ => false)
  else (match List.lookup w FC with
   | some c => decide ((r.length : Int) = c) && r.all (fun x => belB x a)
   | none => false)
 | _ => false
def gvB (a n : Int) : GV → Bool
 | .tup xs => gateB xs a n
 | .oth => false
theorem zapa {w u : Str} {A B : Prop} (h : w ≠ u) (b : B) : if decide (V.str w = V.str u) = true then A else B := by
 rw [decide_eq_false (fun z => h (V.str.inj z))]
 exact iteF b
theorem zack (x y : V) (a n : Int) : gateB [.str "keep", x, y] a n = (belB x 2 && belB y n) := by
 unfold gateB
 simp only
 rw [if_pos trivial]
theorem zadz {r : List V} (a n : Int) (h : r.length ≠ 2) : gateB (.str "keep" :: r) a n = false := by
 unfold gateB
 simp only
 rw [if_pos trivial]
 split
 ·exact absurd rfl h
 ·rfl
theorem zadq {w : Str} {r : List V} (a n : Int) (hk : ¬ w = Str.ofString "keep") (e : List.lookup w FC = none) : gateB (.str w :: r) a n = false := by
 unfold gateB
 simp only
 rw [if_neg hk, e]
theorem zabv {w : Str} {r : List V} {c : Int} (a n : Int) (hk : ¬ w = Str.ofString "keep") (e : List.lookup w FC = some c) : gateB (.str w :: r) a n = (decide ((r.length : Int) = c) && r.all (fun x => belB x a)) := by
 unfold gateB
 simp only
 rw [if_neg hk, e]
section
variable {P : Program} {w : World} {K : PySem.W.Frag} {mg : Str → Option Value} {base : Heap} {f : Addr} {fd : FuncData} {k : Nat}
theorem zaaf : bootBuiltins "isinstance" = some (.builtin "isinstance") := by decide +kernel
theorem zafr : bootBuiltins "bool" = some (.type "bool") := by decide +kernel
theorem zafs : ("bool" : Str) ≠ "__name__" := by decide +kernel
theorem zaft : Nd "bool" := by decide +kernel
theorem zaag : ("isinstance" : Str) ≠ "__name__" := by decide +kernel
theorem zaah : Nd "isinstance" := by decide +kernel
theorem zah3 : bootBuiltins "int" = some (.type "int") := by decide +kernel
theorem zah4 : ("int" : Str) ≠ "__name__" := by decide +kernel
theorem zah5 : Nd "int" := by decide +kernel
theorem zaha : Nd "is_whole" := by decide +kernel
theorem zaes : bootBuiltins "str" = some (.type "str") := by decide +kernel
theorem zaet : ("str" : Str) ≠ "__name__" := by decide +kernel
theorem zaeu : Nd "str" := by decide +kernel
theorem zaa5 : ("len" : Str) ≠ "__name__" := by decide +kernel
theorem zaa6 : Nd "len" := by decide +kernel
theorem zabl : bootBuiltins "tuple" = some (.type "tuple") := by decide +kernel
theorem zabm : ("tuple" : Str) ≠ "__name__" := by decide +kernel
theorem zabn : Nd "tuple" := by decide +kernel
theorem zac3 : Nd "is_below" := by decide +kernel
theorem zadc : Nd "FEED_COUNTS" := by decide +kernel
theorem zaev : bootBuiltins "all" = some (.builtin "all") := by decide +kernel
theorem zaew : ("all" : Str) ≠ "__name__" := by decide +kernel
theorem zaex : Nd "all" := by decide +kernel
theorem gl14 : AG (defScope (top 14)) ["isinstance", "bool", "int"] := ⟨by decide +kernel⟩
theorem av14 : AF (defScope (top 14)) ["thing"] := ⟨by decide +kernel⟩
def spWhole : Sp := fun vs H Q _ => ∃ v : V, vs = [v] ∧ Th v ∧ Q (.bl (isI v)) H
theorem scWhole : FnScope ["thing"] ["thing"] (defScope (top 14)) := ⟨rfl, rfl, rfl, by decide +kernel, rfl, by decide +kernel, by decide +kernel⟩
theorem zalp (F : Fun K "is_whole" "is_whole" (top 14) f fd) (z_isinstance : mg "isinstance" = none) (z_int : mg "int" = none) (z_bool : mg "bool" = none) : FnOk P w K mg base CX0 (k + 1) f fd ["thing"] spWhole := by
 have nd := scWhole.nd
 refine F.ok scWhole (fun vs H Q E h => by obtain ⟨i, rfl, _⟩ := h; rfl) (fun cdv A outer s H vs Q E hr h => ?_)
 obtain ⟨v, rfl, t, q⟩ := h
 refine ⟨_, (Pr.h (zaam (zaat (zab0 (zaac zaaw (gl14.g 0 rfl) z_isinstance zaaf (zaaa (qv av14 0 rfl) (zaaa (zaav (v := .ty "int") (gl14.g 2 rfl) z_int zah3 rfl zah4 zah5) zaab)) zaag zaah) (zacl (zafk (zaac zaaw (gl14.g 0 rfl) z_isinstance zaaf (zaaa (qv av14 0 rfl) (zaaa (zaav (v := .ty "bool") (gl14.g 1 rfl) z_bool zafr rfl zafs zaft) zaab)) zaag zaah))))))), ?_⟩
 (try dsimp only [cxOf])
 cases t with
 | int i => walk_at "rd"; exact q
 | non => walk_at "rd"; exact q
 | bl b => walk_at "rd"; exact q
 | str x => walk_at "rd"; exact q
theorem av15 : AF (defScope (top 15)) ["thing", "bound"] := ⟨by decide +kernel⟩
theorem gl15 : AG (defScope (top 15)) ["is_whole"] := ⟨by decide +kernel⟩
def spBelow : Sp := fun vs H Q _ => ∃ (v : V) (b : Int), vs = [v, .int b] ∧ Th v ∧ Q (.bl (belB v b)) H
theorem scBelow : FnScope ["thing", "bound"] ["thing", "bound"] (defScope (top 15)) := ⟨rfl, rfl, rfl, by decide +kernel, rfl, by decide +kernel, by decide +kernel⟩
theorem zalq (F : Fun K "is_below" "is_below" (top 15) f fd) (Dis_whole : DefOk P w K mg base CX0 k "is_whole" ["thing"] spWhole) : FnOk P w K mg base CX0 (k + 1) f fd ["thing", "bound"] spBelow := by
 have nd := scBelow.nd
 refine F.ok scBelow (fun vs H Q E h => by obtain ⟨v, b, rfl, _⟩ := h; rfl) (fun cdv A outer s H vs Q E hr h => ?_)
 obtain ⟨v, b, rfl, t, q⟩ := h
 refine ⟨_, (Pr.h (zaam (zaat (zab0 (zaap Dis_whole hr (gl15.g 0 rfl) pass0 (zaaa (qv av15 0 rfl) zaab zaae) zaha) (zacl (zajl zapv zaok zaad (qv av15 0 rfl) (qv av15 1 rfl))))))), ?_⟩
 (try dsimp only [cxOf])
 refine ⟨_, rfl, _, rfl, t, ?_⟩
 cases t with
 | int i =>
  walk_at "rd"
  refine ite2 (fun h0 => ?_) (fun h0 => ?_)
  ·walk_at "rd"
   have h0 : 0 ≤ i := by simpa using h0
   have e : belB (.int i) b = decide (i < b) := by show (decide (0 ≤ i) && decide (i < b)) = _; rw [decide_eq_true h0, Bool.true_and]
   rw [e] at q
   exact q
  ·have h0 : ¬ 0 ≤ i := by simpa using h0
   have e : belB (.int i) b = false := by show (decide (0 ≤ i) && decide (i < b)) = _; rw [decide_eq_false h0, Bool.false_and]
   rw [e] at q
   walk_at "rd"
   all_goals first | exact q | (rw [decide_eq_false h0]; exact q)
 | non => walk_at "rd"; exact q
 | bl b => walk_at "rd"; exact q
 | str x => walk_at "rd"; exact q
theorem gl18 : AG (defScope (top 18)) ["isinstance", "str", "len", "tuple", "is_below", "FEED_COUNTS", "all"] := ⟨by decide +kernel⟩
theorem av18 : AF (defScope (top 18)) ["thing", "ahead", "total"] := ⟨by decide +kernel⟩
def zafu : Scope := { kind := PySem.ScopeKind.function, names := [ (PySem.Str.ofString ".0", PySem.NameKind.local), (PySem.Str.ofString "feed", PySem.NameKind.local), (PySem.Str.ofString "is_below", PySem.NameKind.globalImplicit), (PySem.Str.ofString "ahead", PySem.NameKind.free)], isGenerator := false, isCoroutine := false, more := [] : PySem.Scope }
theorem zaj4 : CompOk zafu (defScope (top 18)) (["feed"] : List Str) (["thing", "ahead", "total"] : List Str) [1] (["feed", "ahead"] : List Str) := compOk rfl (by decide +kernel) (by decide +kernel) (by decide +kernel) (by decide +kernel) rfl (by decide +kernel)
theorem zaj5 : AK (relab zafu (defScope (top 18))) ["feed"] := ⟨by decide +kernel⟩
theorem zani : AG (relab zafu (defScope (top 18))) ["is_below"] := ⟨by decide +kernel⟩
theorem zaj6 : AV (relab zafu (defScope (top 18))) ["feed", "ahead"] := ⟨by decide +kernel⟩
def spGate : Sp := fun vs H Q _ => ∃ (v : V) (g : GV) (a n : Int), vs = [v, .int a, .int n] ∧ GvAt H v g ∧ ∀ H', Ch [] H H' → Q (.bl (gvB a n g)) H'
theorem scGate : FnScope ["thing", "ahead", "total"] ["thing", "ahead", "total"] (defScope (top 18)) := ⟨rfl, rfl, rfl, by decide +kernel, rfl, by decide +kernel, by decide +kernel⟩
theorem zanj {fa : Addr} {kvs : List (Key × V)} (F : Fun K "is_gate" "is_gate" (top 18) f fd) (Dis_below : DefOk P w K mg base CX0 k "is_below" ["thing", "bound"] spBelow)
  (m_FEED_COUNTS : mg "FEED_COUNTS" = some (.ref fa)) (hKD : KD P w K fa kvs) (hF : ∀ w, valV kvs (Sum.inr w) = (List.lookup w FC).map V.int)
  (z_isinstance : mg "isinstance" = none) (z_tuple : mg "tuple" = none) (z_str : mg "str" = none) (z_len : mg "len" = none) (z_all : mg "all" = none) : FnOk P w K mg base CX0 (k + 1) f fd ["thing", "ahead", "total"] spGate := by
 have nd := scGate.nd
 refine F.ok scGate (fun vs H Q E h => by obtain ⟨v, g, a, n, rfl, _⟩ := h; rfl) (fun cdv A outer s H vs Q E hr h => ?_)
 obtain ⟨v, g, a, n, rfl, gv, q⟩ := h
 refine ⟨_, (Pr.h (zaaj (zaa2 (zaca (zacj (zabq (zaa7 (zaac zaaw (gl18.g 0 rfl) z_isinstance zaaf (zaaa (qv av18 0 rfl) (zaaa (zaav (v := .ty "tuple") (gl18.g 3 rfl) z_tuple zabl rfl zabm zabn) zaab)) zaag zaah))) (zacj (zaau zac8 (zaac zaal (gl18.g 2 rfl) z_len PySem.boot_len (zaaa (qv av18 0 rfl) zaab zaae) zaa5 zaa6) zaad (nomark _)) (zab1 (zabq (zaa7 (zaac zaaw (gl18.g 0 rfl) z_isinstance zaaf (zaaa (zaaz zabf (qv av18 0 rfl) zaad (fun _ _ => rfl)) (zaaa (zaav (v := .ty "str") (gl18.g 1 rfl) z_str zaes rfl zaet zaeu) zaab)) zaag zaah))))))) (zaam (zaat zabt)) zaar) (zaaj (zaa2 (zaau zac8 (zaaz zabf (qv av18 0 rfl) zaad (fun _ _ => rfl)) zaas (nomark _)) (zaam (zaat (zab0 (zabz zac8 (zaac zaal (gl18.g 2 rfl) z_len PySem.boot_len (zaaa (qv av18 0 rfl) zaab zaae) zaa5 zaa6) zaad (nomark _)) (zab0 (zaap Dis_below hr (gl18.g 4 rfl) pass0 (zaaa (zaaz zabf (qv av18 0 rfl) zaad (fun _ _ => rfl)) (zaaa zaad zaab zaai) zaaq) zac3) (zacl (zaap Dis_below hr (gl18.g 4 rfl) pass0 (zaaa (zaaz zabf (qv av18 0 rfl) zaad (fun _ _ => rfl)) (zaaa (qv av18 2 rfl) zaab zaae) zaaq) zac3)))))) zaar) (zaaj (zaa2 (zaca (zacj (zaau zafj (zaaz zabf (qv av18 0 rfl) zaad (fun _ _ => rfl)) (zaby (v := .ref _) (gl18.g 5 rfl) m_FEED_COUNTS rfl zadc) rfl) (zab1 (zaau zade (zaac zaal (gl18.g 2 rfl) z_len PySem.boot_len (zaaa (qv av18 0 rfl) zaab zaae) zaa5 zaa6) (zaao zacw zaad (zam5 (zaby (v := .ref _) (gl18.g 5 rfl) m_FEED_COUNTS rfl zadc) (zaaz zabf (qv av18 0 rfl) zaad (fun _ _ => rfl)) (fun _ _ => rfl))) (nomark _))))) (zaam (zaat zabt)) zaar) (zaam (zaat (zaac (zac0 rfl) (gl18.g 6 rfl) z_all zaev (zaaa (zacp rfl zaj4 (zag0 (zabc zahu (qv av18 0 rfl) (zabi zaad) zabh)) (fun _ _ _ _ _ => (zaay (i := 0) zaj4.nd rfl (Or.inl (zaj5.k 0 rfl)) (Or.inr (zaj5.k 0 rfl)))) (fun _ _ _ _ _ => zac1) (fun _ _ _ _ _ => (zaap Dis_below hr (zani.g 0 rfl) pass0 (zaaa (qw zaj6 0 rfl) (zaaa (qw zaj6 1 rfl) zaab zaae) zaae) zac3))) zaab zab3) zaew zaex))))))), ?_⟩
 (try dsimp only [cxOf])
 cases g with
 | oth =>
  have q : ∀ H', Ch [] H H' → Q (.bl false) H' := q
  rcases gv with t | ⟨p, ys, rfl, hp⟩
  ·cases t with
   | int i => walk_at "rd"; exact q H (Ch.refl _ _)
   | non => walk_at "rd"; exact q H (Ch.refl _ _)
   | bl b => walk_at "rd"; exact q H (Ch.refl _ _)
   | str x => walk_at "rd"; exact q H (Ch.refl _ _)
  ·walk_at "rd"
   exact q H (Ch.refl _ _)
 | tup xs =>
  obtain ⟨p, rfl, hp, th, l10⟩ := gv
  have q : ∀ H', Ch [] H H' → Q (.bl (gateB xs a n)) H' := q
  cases xs with
  | nil => walk_at "rd"; exact q H (Ch.refl _ _)
  | cons x r =>
   cases th x (by simp) with
   | int i =>
    have es : ((fun x : List Value => x.contains (Value.type "str")) ((fun x => List.map Value.type x.mro) Manifest.ty_int)) = false := by decide +kernel
    walk_at "rd"
    rw [es]
    walk_at "rd"
    exact q H (Ch.refl _ _)
   | non => walk_at "rd"; exact q H (Ch.refl _ _)
   | bl b => walk_at "rd"; exact q H (Ch.refl _ _)
   | str wd =>
    by_cases hk : wd = Str.ofString "keep"
    ·subst hk
     walk_at "rd"
     refine ite2 (fun h => ?_) (fun h => ?_)
     ·have h3 : (((V.str (Str.ofString "keep") :: r).length : Nat) : Int) = 3 := by simpa using h
      rw [List.length_cons] at h3
      obtain ⟨x, y, rfl⟩ : ∃ x y, r = [x, y] := by
       match r, h3 with
       | [x, y], _ => exact ⟨x, y, rfl⟩
       | [], h => simp at h
       | [_], h => simp at h
       | _ :: _ :: _ :: t, h => simp at h; omega
      have tx := th x (by simp)
      have ty := th y (by simp)
      rw [zack] at q
      walk_at "rd"
      refine ite2 (fun hb => ?_) (fun hb => ?_)
      ·rw [hb, Bool.true_and] at q
       walk_at "rd"
       exact q H (Ch.refl _ _)
      ·have hb : belB x 2 = false := by simpa using hb
       rw [hb, Bool.false_and] at q
       walk_at "rd"
       exact q H (Ch.refl _ _)
     ·have h3 : r.length ≠ 2 := fun z => h (by rw [List.length_cons, z]; rfl)
      rw [zadz a n h3] at q
      have hd : decide (V.int (((V.str (Str.ofString "keep") :: r).length : Nat) : Int) = V.int 3) = false := by simpa using h
      walk_at "rd"
      exact q H (Ch.refl _ _)
    ·walk_at "rd"
     refine zapa hk ?_
     have hv := hF wd
     cases e : List.lookup wd FC with
     | none =>
      rw [e] at hv
      have hv : valV kvs (Sum.inr wd) = none := hv
      rw [zadq a n hk e] at q
      walk_at "rd"
      rw [hv]
      refine iteT ?_
      walk_at "rd"
      exact q H (Ch.refl _ _)
     | some c =>
      rw [e] at hv
      have hv : valV kvs (Sum.inr wd) = some (.int c) := hv
      rw [zabv a n hk e] at q
      walk_at "rd"
      rw [hv]
      refine iteF ?_
      walk_at "rd"
      refine ite2 (fun h => ?_) (fun h => ?_)
      ·have hd : decide ((r.length : Int) = c) = false := by
        refine decide_eq_false fun z => ?_
        have : ¬ (((V.str wd :: r).length : Nat) : Int) = 1 + c := by simpa using h
        rw [List.length_cons] at this
        omega
       rw [hd, Bool.false_and] at q
       walk_at "rd"
       exact q H (Ch.refl _ _)
      ·have hd : decide ((r.length : Int) = c) = true := by
        refine decide_eq_true ?_
        have : (((V.str wd :: r).length : Nat) : Int) = 1 + c := by simpa using h
        rw [List.length_cons] at this
        omega
       rw [hd, Bool.true_and] at q
       walk_at "rd"
       rename_i pt hpt
       refine zala r (fun j ys σ H' => H' = upd H pt (.tup (cutV (V.str wd :: r) (some 1) none)) ∧ ys = (r.take j).map (fun x => V.bl (belB x a)) ∧ ∃ u, σ = [u, some (.int a)]) (by rw [sizeLine_eq]; rw [List.length_cons] at l10; omega) ⟨rfl, rfl, _, rfl⟩ ?_ ?_ ?_
       ·rintro j ys σ H' hj ⟨rfl, rfl, _⟩
        exact ⟨by rw [List.length_map, List.length_take]; omega, SqT.of (by rw [zaak, cut1])⟩
       ·rintro j ys σ H' x hx ⟨rfl, rfl, u, rfl⟩
        have tx := th x (List.mem_cons_of_mem _ (List.mem_of_getElem? hx))
        walk_at "rd"
        exact ⟨by rw [List.take_add_one, hx]; simp, _, rfl⟩
       ·rintro ys σ H' ⟨rfl, rfl, _⟩
        intro D hD
        refine ⟨D, r.map (fun x => belB x a), rfl, by rw [zaak, List.take_length, List.map_map]; rfl, ?_⟩
        rw [show (r.map fun x => belB x a).all id = r.all fun x => belB x a by rw [List.all_map]; rfl]
        exact q _ ((Ch.new hpt _).trans (Ch.new hD _))
end
end

section
inductive Gt where
 | inp | zero | one
 | keep (f : Int) (a : Nat)
 | not (a : Nat)
 | and (a b : Nat)
 | or (a b : Nat)
 | xor (a b : Nat)
 | pick (a b c : Nat)
def Gt.vs : Gt → List V
 | .inp => [.str "in"]
 | .zero => [.str "zero"]
 | .one => [.str "one"]
 | .keep f a => [.str "keep", .int f, .int a]
 | .not a => [.str "not", .int a]
 | .and a b => [.str "and", .int a, .int b]
 | .or a b => [.str "or", .int a, .int b]
 | .xor a b => [.str "xor", .int a, .int b]
 | .pick a b c => [.str "pick", .int a, .int b, .int c]
def Gt.ok (i n : Nat) : Gt → Prop
 | .inp => True
 | .zero => True
 | .one => True
 | .keep f a => 0 ≤ f ∧ f < 2 ∧ a < n
 | .not a => a < i
 | .and a b => a < i ∧ b < i
 | .or a b => a < i ∧ b < i
 | .xor a b => a < i ∧ b < i
 | .pick a b c => a < i ∧ b < i ∧ c < i
structure Gs (H : Hp) (gs : List Gt) (xs : List V) : Prop where
 len : xs.length = gs.length
 at_ : ∀ (i : Nat) (g : Gt), gs[i]? = some g → ∃ p, xs[i]? = some (.ref p) ∧ H p = some (.tup g.vs)
theorem Gs.tu {H H' : Hp} {gs : List Gt} {xs : List V} (h : Gs H gs xs) (t : Tu H H') : Gs H' gs xs := ⟨h.len, fun i g e => let ⟨p, a, b⟩ := h.at_ i g e; ⟨p, a, t p _ b⟩⟩
def Oks (gs : List Gt) : Prop := ∀ (i : Nat) (g : Gt), gs[i]? = some g → g.ok i gs.length
section
variable {P : Program} {w : World} {K : PySem.W.Frag} {mg : Str → Option Value} {base : Heap} {f : Addr} {fd : FuncData} {k : Nat}
theorem zab7 : bootBuiltins "list" = some (.type "list") := by decide +kernel
theorem zab8 : ("list" : Str) ≠ "__name__" := by decide +kernel
theorem zab9 : Nd "list" := by decide +kernel
theorem av22 : AF (defScope (top 22)) ["gate"] := ⟨by decide +kernel⟩
theorem gl22 : AG (defScope (top 22)) ["list"] := ⟨by decide +kernel⟩
def Gt.feeds : Gt → List Nat
 | .inp => []
 | .zero => []
 | .one => []
 | .keep f a => [a]
 | .not a => [a]
 | .and a b => [a, b]
 | .or a b => [a, b]
 | .xor a b => [a, b]
 | .pick a b c => [a, b, c]
theorem freeN {H : Hp} {p r : Addr} {o : HO} (hp : H p = none) (hr : upd H p o r = none) : H r = none := by
 by_cases e : r = p
 ·rw [e]; exact hp
 ·rw [zaax e] at hr; exact hr
def nV (a : Nat) : V := .int (a : Int)
def spFeeds : Sp := fun vs H Q _ => ∃ (p : Addr) (g : Gt), vs = [.ref p] ∧ H p = some (.tup g.vs) ∧ ∀ r H', Ch [] H H' → H r = none → H' r = some (.lst (g.feeds.map nV)) → Q (.ref r) H'
theorem scFeeds : FnScope ["gate"] ["gate"] (defScope (top 22)) := ⟨rfl, rfl, rfl, by decide +kernel, rfl, by decide +kernel, by decide +kernel⟩
theorem zalr (F : Fun K "feeds_of" "feeds_of" (top 22) f fd) (z_list : mg "list" = none) : FnOk P w K mg base CX0 (k + 1) f fd ["gate"] spFeeds := by
 have nd := scFeeds.nd
 refine F.ok scFeeds (fun vs H Q E h => by obtain ⟨p, g, rfl, _⟩ := h; rfl) (fun cdv A outer s H vs Q E hr h => ?_)
 obtain ⟨p, g, rfl, hp, q⟩ := h
 refine ⟨_, (Pr.h (zaaj (zaa2 (zaau zac8 (zaaz zabf (qv av22 0 rfl) zaad (fun _ _ => rfl)) zaas (nomark _)) (zaam (zaat (zabd (zaaa (zaaz zabf (qv av22 0 rfl) zaad (fun _ _ => rfl)) zaab zaaq)))) zaar) (zaam (zaat (zabo zacg (gl22.g 0 rfl) z_list zab7 (zaaa (zabc zahu (qv av22 0 rfl) (zabi zaad) zabh) zaab zaaq) zab8 zab9))))), ?_⟩
 (try dsimp only [cxOf])
 cases g with
 | keep ff a =>
  have hp : H p = some (.tup [.str "keep", .int ff, .int a]) := hp
  walk_at "rd"
  exact q _ _ (Ch.new (by assumption) _) (by assumption) zaak
 | inp =>
  have hp : H p = some (.tup [.str "in"]) := hp
  walk_at "rd"
  rename_i pt hpt r hr1
  exact q _ _ ((Ch.new hpt _).trans (Ch.new hr1 _)) (freeN hpt hr1) (by rw [zaak, cut1]; rfl)
 | zero =>
  have hp : H p = some (.tup [.str "zero"]) := hp
  walk_at "rd"
  rename_i pt hpt r hr1
  exact q _ _ ((Ch.new hpt _).trans (Ch.new hr1 _)) (freeN hpt hr1) (by rw [zaak, cut1]; rfl)
 | one =>
  have hp : H p = some (.tup [.str "one"]) := hp
  walk_at "rd"
  rename_i pt hpt r hr1
  exact q _ _ ((Ch.new hpt _).trans (Ch.new hr1 _)) (freeN hpt hr1) (by rw [zaak, cut1]; rfl)
 | not a =>
  have hp : H p = some (.tup [.str "not", .int a]) := hp
  walk_at "rd"
  rename_i pt hpt r hr1
  exact q _ _ ((Ch.new hpt _).trans (Ch.new hr1 _)) (freeN hpt hr1) (by rw [zaak, cut1]; rfl)
 | and a b =>
  have hp : H p = some (.tup [.str "and", .int a, .int b]) := hp
  walk_at "rd"
  rename_i pt hpt r hr1
  exact q _ _ ((Ch.new hpt _).trans (Ch.new hr1 _)) (freeN hpt hr1) (by rw [zaak, cut1]; rfl)
 | or a b =>
  have hp : H p = some (.tup [.str "or", .int a, .int b]) := hp
  walk_at "rd"
  rename_i pt hpt r hr1
  exact q _ _ ((Ch.new hpt _).trans (Ch.new hr1 _)) (freeN hpt hr1) (by rw [zaak, cut1]; rfl)
 | xor a b =>
  have hp : H p = some (.tup [.str "xor", .int a, .int b]) := hp
  walk_at "rd"
  rename_i pt hpt r hr1
  exact q _ _ ((Ch.new hpt _).trans (Ch.new hr1 _)) (freeN hpt hr1) (by rw [zaak, cut1]; rfl)
 | pick a b c =>
  have hp : H p = some (.tup [.str "pick", .int a, .int b, .int c]) := hp
  walk_at "rd"
  rename_i pt hpt r hr1
  exact q _ _ ((Ch.new hpt _).trans (Ch.new hr1 _)) (freeN hpt hr1) (by rw [zaak, cut1]; rfl)
def numsOf (t : Gt → Bool) : List Gt → Nat → List Nat
 | [], _ => []
 | g :: gs, i => if t g then i :: numsOf t gs (i + 1) else numsOf t gs (i + 1)
def Gt.isIn : Gt → Bool
 | .inp => true
 | _ => false
def Gt.isKeep : Gt → Bool
 | .keep _ _ => true
 | _ => false
theorem zadr (t : Gt → Bool) : ∀ (a b : List Gt) (i : Nat), numsOf t (a ++ b) i = numsOf t a i ++ numsOf t b (i + a.length)
 | [], b, i => by simp [numsOf]
 | g :: a, b, i => by
  have := zadr t a b (i + 1)
  simp only [List.cons_append, numsOf, List.length_cons]
  rw [this, show i + 1 + a.length = i + (a.length + 1) by omega]
  split <;> simp
theorem zac4 (t : Gt → Bool) {gs : List Gt} {i : Nat} {g : Gt} (h : gs[i]? = some g) : numsOf t (gs.take (i + 1)) 0 = numsOf t (gs.take i) 0 ++ if t g then [i] else [] := by
 have hi : i < gs.length := (List.getElem?_eq_some_iff.mp h).1
 rw [List.take_add_one, h, zadr]
 simp only [Option.toList_some, numsOf, Nat.zero_add, List.length_take, Nat.min_eq_left (Nat.le_of_lt hi)]
theorem zace (t : Gt → Bool) : ∀ (gs : List Gt) (i : Nat), (numsOf t gs i).length ≤ gs.length
 | [], _ => by simp [numsOf]
 | g :: gs, i => by
  have := zace t gs (i + 1)
  simp only [numsOf, List.length_cons]
  split <;> simp <;> omega
end
def fldsNet (gp op : Addr) : List (Str × V) := [("gates", .ref gp), ("outs", .ref op)]
theorem zacq (gp op : Addr) : List.lookup (Str.ofString "gates") (fldsNet gp op) = some (.ref gp) := rfl
theorem zagq (gp op : Addr) : List.lookup (Str.ofString "outs") (fldsNet gp op) = some (.ref op) := rfl
structure NetAt (C : Addr) (H : Hp) (nt gp op : Addr) (gs : List Gt) (xs : List V) (os : List Nat) : Prop where
 ob : ∃ dx, H nt = some (.ins C dx (fldsNet gp op))
 gt : H gp = some (.tup xs)
 gg : Gs H gs xs
 ot : H op = some (.tup (os.map nV))
section
variable {P : Program} {w : World} {K : PySem.W.Frag} {mg : Str → Option Value} {base : Heap} {f : Addr} {fd : FuncData} {k : Nat}
theorem zaj7 : ∀ g : Gt, ∃ (wd : Str) (rs : List V), g.vs = .str wd :: rs ∧ decide (V.str wd = V.str "in") = g.isIn
 | .inp => ⟨_, _, rfl, rfl⟩
 | .zero => ⟨_, _, rfl, rfl⟩
 | .one => ⟨_, _, rfl, rfl⟩
 | .keep _ _ => ⟨_, _, rfl, rfl⟩
 | .not _ => ⟨_, _, rfl, rfl⟩
 | .and _ _ => ⟨_, _, rfl, rfl⟩
 | .or _ _ => ⟨_, _, rfl, rfl⟩
 | .xor _ _ => ⟨_, _, rfl, rfl⟩
 | .pick _ _ _ => ⟨_, _, rfl, rfl⟩
theorem zagr : ∀ g : Gt, ∃ (wd : Str) (rs : List V), g.vs = .str wd :: rs ∧ decide (V.str wd = V.str "keep") = g.isKeep
 | .inp => ⟨_, _, rfl, rfl⟩
 | .zero => ⟨_, _, rfl, rfl⟩
 | .one => ⟨_, _, rfl, rfl⟩
 | .keep _ _ => ⟨_, _, rfl, rfl⟩
 | .not _ => ⟨_, _, rfl, rfl⟩
 | .and _ _ => ⟨_, _, rfl, rfl⟩
 | .or _ _ => ⟨_, _, rfl, rfl⟩
 | .xor _ _ => ⟨_, _, rfl, rfl⟩
 | .pick _ _ _ => ⟨_, _, rfl, rfl⟩
theorem gl20 : AG (defScope (top 20)) ["enumerate"] := ⟨by decide +kernel⟩
theorem av20 : AF (defScope (top 20)) ["net"] := ⟨by decide +kernel⟩
def zahb : Scope := { kind := PySem.ScopeKind.function, names := [ (PySem.Str.ofString ".0", PySem.NameKind.local), (PySem.Str.ofString "number", PySem.NameKind.local), (PySem.Str.ofString "gate", PySem.NameKind.local)], isGenerator := false, isCoroutine := false, more := [] : PySem.Scope }
theorem zahc : CompOk zahb (defScope (top 20)) (["number", "gate"] : List Str) (["net"] : List Str) [] (["number", "gate"] : List Str) := compOk rfl (by decide +kernel) (by decide +kernel) (by decide +kernel) (by decide +kernel) rfl (by decide +kernel)
theorem zafv : AK (relab zahb (defScope (top 20))) ["number", "gate"] := ⟨by decide +kernel⟩
theorem zaj8 : AV (relab zahb (defScope (top 20))) ["number", "gate"] := ⟨by decide +kernel⟩
def spIns (C : Addr) : Sp := fun vs H Q _ => ∃ (nt gp op : Addr) (gs : List Gt) (xs : List V) (os : List Nat), vs = [.ref nt] ∧ NetAt C H nt gp op gs xs os ∧ gs.length ≤ 1000 ∧ ∀ r H', Ch [] H H' → H r = none → H' r = some (.lst ((numsOf Gt.isIn gs 0).map nV)) → Q (.ref r) H'
theorem scIns : FnScope ["net"] ["net"] (defScope (top 20)) := ⟨rfl, rfl, rfl, by decide +kernel, rfl, by decide +kernel, by decide +kernel⟩
theorem zaj9 {C : Addr} (F : Fun K "ins_of" "ins_of" (top 20) f fd) (cl : Cls K C) (nG : NoAttr K C "gates") (z_enumerate : mg "enumerate" = none) : FnOk P w K mg base CX0 (k + 1) f fd ["net"] (spIns C) := by
 have nd := scIns.nd
 refine F.ok scIns (fun vs H Q E h => by obtain ⟨nt, gp, op, gs, xs, os, rfl, _⟩ := h; rfl) (fun cdv A outer s H vs Q E hr h => ?_)
 obtain ⟨nt, gp, op, gs, xs, os, rfl, ⟨⟨dx, hn⟩, hg, hgs, ho⟩, hlen, q⟩ := h
 refine ⟨_, (Pr.h (zaam (zaat (zacp rfl zahc (zado .tuple (gl20.g 0 rfl) z_enumerate (zaaa (zadg (qv av20 0 rfl) rfl) zaab zabu)) (fun _ _ _ _ _ => (zac2 K 2 rfl rfl (zaa8 (zaay (i := 0) zahc.nd rfl (Or.inl (zafv.k 0 rfl)) (Or.inr (zafv.k 0 rfl))) (zaa8 (zaay (i := 1) zahc.nd rfl (Or.inl (zafv.k 1 rfl)) (Or.inr (zafv.k 1 rfl))) zacf)))) (fun _ _ _ _ _ => (zadn (zaau zac8 (zaaz (zadb K rfl) (qw zaj8 1 rfl) zaad (fun _ _ => rfl)) zaas (nomark _)))) (fun _ _ _ _ _ => (qw zaj8 0 rfl)))))), ?_⟩
 (try dsimp only [cxOf])
 have fg := zacq gp op
 have hx := hgs.len
 walk_at "rd"
 refine zadm xs (fun i ys σ H' => Ch [] H H' ∧ ys = (numsOf Gt.isIn (gs.take i) 0).map nV ∧ ∃ u v, σ = [u, v]) (by rw [sizeLine_eq]; omega) ⟨Ch.refl _ _, rfl, _, _, rfl⟩ ?_ ?_ ?_
 ·rintro i ys σ H' hi ⟨c, rfl, _⟩
  refine ⟨?_, SqT.of (c.get hg (by simp))⟩
  have := zace Gt.isIn (gs.take i) 0
  rw [List.length_take] at this
  rw [List.length_map]; omega
 ·rintro i ys σ H' x T hx' ⟨c, rfl, u, v, rfl⟩ hT
  have hi : i < gs.length := by rw [← hx]; exact (List.getElem?_eq_some_iff.mp hx').1
  obtain ⟨g, hgi⟩ : ∃ g, gs[i]? = some g := ⟨_, List.getElem?_eq_getElem hi⟩
  obtain ⟨p, ep, hp⟩ := hgs.at_ i g hgi
  rw [hx'] at ep
  cases ep
  have hp1 : H' p = some (.tup g.vs) := c.get hp (by simp)
  have nt := zac4 Gt.isIn hgi
  obtain ⟨wd, rs, ev, hd⟩ := zaj7 g
  rw [ev] at hp1
  walk_at "rd"
  rw [hd]
  cases ht : Gt.isIn g with
  | true =>
   refine iteT ?_
   walk_at "rd"
   refine ⟨?_, _, _, rfl⟩
   rw [nt, ht]; simp [nV]
  | false =>
   refine iteF ?_
   refine ⟨c.trans (Ch.new hT _), ?_, _, _, rfl⟩
   rw [nt, ht]; simp
 ·rintro ys σ H' ⟨c, rfl, _⟩
  intro D hD
  refine q _ _ (c.trans (Ch.new hD _)) (chFree c hD) ?_
  rw [zaak, hx, List.take_length]
theorem gl21 : AG (defScope (top 21)) ["enumerate"] := ⟨by decide +kernel⟩
theorem av21 : AF (defScope (top 21)) ["net"] := ⟨by decide +kernel⟩
def zahd : Scope := { kind := PySem.ScopeKind.function, names := [ (PySem.Str.ofString ".0", PySem.NameKind.local), (PySem.Str.ofString "number", PySem.NameKind.local), (PySem.Str.ofString "gate", PySem.NameKind.local)], isGenerator := false, isCoroutine := false, more := [] : PySem.Scope }
theorem zahe : CompOk zahd (defScope (top 21)) (["number", "gate"] : List Str) (["net"] : List Str) [] (["number", "gate"] : List Str) := compOk rfl (by decide +kernel) (by decide +kernel) (by decide +kernel) (by decide +kernel) rfl (by decide +kernel)
theorem zafw : AK (relab zahd (defScope (top 21))) ["number", "gate"] := ⟨by decide +kernel⟩
theorem zaka : AV (relab zahd (defScope (top 21))) ["number", "gate"] := ⟨by decide +kernel⟩
def spKeeps (C : Addr) : Sp := fun vs H Q _ => ∃ (nt gp op : Addr) (gs : List Gt) (xs : List V) (os : List Nat), vs = [.ref nt] ∧ NetAt C H nt gp op gs xs os ∧ gs.length ≤ 1000 ∧ ∀ r H', Ch [] H H' → H r = none → H' r = some (.lst ((numsOf Gt.isKeep gs 0).map nV)) → Q (.ref r) H'
theorem scKeeps : FnScope ["net"] ["net"] (defScope (top 21)) := ⟨rfl, rfl, rfl, by decide +kernel, rfl, by decide +kernel, by decide +kernel⟩
theorem zahf {C : Addr} (F : Fun K "keeps_of" "keeps_of" (top 21) f fd) (cl : Cls K C) (nG : NoAttr K C "gates") (z_enumerate : mg "enumerate" = none) : FnOk P w K mg base CX0 (k + 1) f fd ["net"] (spKeeps C) := by
 have nd := scKeeps.nd
 refine F.ok scKeeps (fun vs H Q E h => by obtain ⟨nt, gp, op, gs, xs, os, rfl, _⟩ := h; rfl) (fun cdv A outer s H vs Q E hr h => ?_)
 obtain ⟨nt, gp, op, gs, xs, os, rfl, ⟨⟨dx, hn⟩, hg, hgs, ho⟩, hlen, q⟩ := h
 refine ⟨_, (Pr.h (zaam (zaat (zacp rfl zahe (zado .tuple (gl21.g 0 rfl) z_enumerate (zaaa (zadg (qv av21 0 rfl) rfl) zaab zabu)) (fun _ _ _ _ _ => (zac2 K 2 rfl rfl (zaa8 (zaay (i := 0) zahe.nd rfl (Or.inl (zafw.k 0 rfl)) (Or.inr (zafw.k 0 rfl))) (zaa8 (zaay (i := 1) zahe.nd rfl (Or.inl (zafw.k 1 rfl)) (Or.inr (zafw.k 1 rfl))) zacf)))) (fun _ _ _ _ _ => (zadn (zaau zac8 (zaaz (zadb K rfl) (qw zaka 1 rfl) zaad (fun _ _ => rfl)) zaas (nomark _)))) (fun _ _ _ _ _ => (qw zaka 0 rfl)))))), ?_⟩
 (try dsimp only [cxOf])
 have fg := zacq gp op
 have hx := hgs.len
 walk_at "rd"
 refine zadm xs (fun i ys σ H' => Ch [] H H' ∧ ys = (numsOf Gt.isKeep (gs.take i) 0).map nV ∧ ∃ u v, σ = [u, v]) (by rw [sizeLine_eq]; omega) ⟨Ch.refl _ _, rfl, _, _, rfl⟩ ?_ ?_ ?_
 ·rintro i ys σ H' hi ⟨c, rfl, _⟩
  refine ⟨?_, SqT.of (c.get hg (by simp))⟩
  have := zace Gt.isKeep (gs.take i) 0
  rw [List.length_take] at this
  rw [List.length_map]; omega
 ·rintro i ys σ H' x T hx' ⟨c, rfl, u, v, rfl⟩ hT
  have hi : i < gs.length := by rw [← hx]; exact (List.getElem?_eq_some_iff.mp hx').1
  obtain ⟨g, hgi⟩ : ∃ g, gs[i]? = some g := ⟨_, List.getElem?_eq_getElem hi⟩
  obtain ⟨p, ep, hp⟩ := hgs.at_ i g hgi
  rw [hx'] at ep
  cases ep
  have hp1 : H' p = some (.tup g.vs) := c.get hp (by simp)
  have nt := zac4 Gt.isKeep hgi
  obtain ⟨wd, rs, ev, hd⟩ := zagr g
  rw [ev] at hp1
  walk_at "rd"
  rw [hd]
  cases ht : Gt.isKeep g with
  | true =>
   refine iteT ?_
   walk_at "rd"
   refine ⟨?_, _, _, rfl⟩
   rw [nt, ht]; simp [nV]
  | false =>
   refine iteF ?_
   refine ⟨c.trans (Ch.new hT _), ?_, _, _, rfl⟩
   rw [nt, ht]; simp
 ·rintro ys σ H' ⟨c, rfl, _⟩
  intro D hD
  refine q _ _ (c.trans (Ch.new hD _)) (chFree c hD) ?_
  rw [zaak, hx, List.take_length]
end
end

section
def SqX (k : SK) (H : Hp) (a : Addr) (xs : List V) : Prop := match k with
 | .list => H a = some (.lst xs)
 | .tuple => H a = some (.tup xs)
theorem SqX.ch {kd : SK} {H H' : Hp} {a : Addr} {xs : List V} (h : SqX kd H a xs) (c : Ch [] H H') : SqX kd H' a xs := by
 cases kd with
 | list => exact c.get h (by simp)
 | tuple => exact c.get h (by simp)
theorem SqX.sq {kd : SK} {K : PySem.W.Frag} {H : Hp} {a : Addr} {xs : List V} (h : SqX kd H a xs) : Sq kd K H a xs := by
 cases kd with
 | list => exact SqL.of h
 | tuple => exact SqT.of h
theorem SqX.or {kd : SK} {K : PySem.W.Frag} {H : Hp} {a : Addr} {xs : List V} (h : SqX kd H a xs) : SqL K H a xs ∨ SqT K H a xs := by
 cases kd with
 | list => exact .inl (SqL.of h)
 | tuple => exact .inr (SqT.of h)
theorem GvAt.ch {H H' : Hp} (c : Ch [] H H') {v : V} {g : GV} (h : GvAt H v g) : GvAt H' v g := by
 cases g with
 | tup xs => obtain ⟨p, e, a, b⟩ := h; exact ⟨p, e, c.get a (by simp), b⟩
 | oth =>
  rcases h with h | ⟨p, ys, e, a⟩
  ·exact .inl h
  ·exact .inr ⟨p, ys, e, c.get a (by simp)⟩
structure GL (H : Hp) (xs : List V) (gs : List GV) : Prop where
 len : xs.length = gs.length
 at_ : ∀ (i : Nat) (g : GV), gs[i]? = some g → ∃ v, xs[i]? = some v ∧ GvAt H v g
theorem GL.ch {H H' : Hp} (c : Ch [] H H') {xs : List V} {gs : List GV} (h : GL H xs gs) : GL H' xs gs := ⟨h.len, fun i g e => let ⟨v, a, b⟩ := h.at_ i g e; ⟨v, a, b.ch c⟩⟩
def GoodTo (gs : List GV) (s : Nat) : Prop := ∀ (i : Nat) (g : GV), i < s → gs[i]? = some g → gvB (i : Int) (gs.length : Int) g = true
def BadAt (gs : List GV) (s : Nat) : Prop := ∃ g, gs[s]? = some g ∧ gvB (s : Int) (gs.length : Int) g = false
theorem zank {K : PySem.W.Frag} {kd : SK} {a : Addr} {xs : List V} {g : TG} {tb : TS} {D : Ends} {σ : St} {H : Hp} (Pv : Nat → St → Hp → Prop) (h0 : Pv 0 σ H) (hl : ∀ i σ H, i ≤ xs.length → Pv i σ H → Sq kd K H a xs)
  (hs : ∀ i x σ H, xs[i]? = some x → Pv i σ H → g x σ H fun σ2 H2 => tb { D with nx := Pv (i + 1), ct := Pv (i + 1), bk := D.nx } σ2 H2) (hd : ∀ σ H, Pv xs.length σ H → D.nx σ H) : Loop (ItK K kd a) g tb D σ H := by
 cases kd with
 | list => exact zagn Pv h0 hl hs hd
 | tuple => exact zahv Pv h0 hl hs hd
section
variable {P : Program} {w : World} {K : PySem.W.Frag} {mg : Str → Option Value} {base : Heap} {f : Addr} {fd : FuncData} {k : Nat}
theorem zais : Nd "is_gate" := by decide +kernel
theorem gl10m0 : AG (defScope (inClass (top 10) 0)) ["FloorError"] := ⟨by decide +kernel⟩
theorem av10m0 : AF (defScope (inClass (top 10) 0)) ["self", "gate"] := ⟨by decide +kernel⟩
theorem scNN : FnScope ["self", "gate"] ["self", "gate"] (defScope (inClass (top 10) 0)) := ⟨rfl, rfl, rfl, by decide +kernel, rfl, by decide +kernel, by decide +kernel⟩
theorem zap2 {CT CF : Addr} {fi : Addr} (F : Fun K "__init__" "NoNet.__init__" (inClass (top 10) 0) f fd) (xi : XI K CT fi) (nL : NoAttr K CT "gate") (m_FloorError : mg "FloorError" = some (.ref CF)) (ci_FloorError : ClsIni K CF) : FnOk P w K mg base CX0 (k + 1) f fd ["self", "gate"] (spXI CT "gate") := by
 have nd := scNN.nd
 refine F.ok scNN (fun vs H Q E h => by obtain ⟨ea, v, rfl, _⟩ := h; rfl) (fun cdv A outer s H vs Q E hr h => ?_)
 obtain ⟨ea, v, rfl, he, q⟩ := h
 refine ⟨_, (Pr.h (zaaj (zaco (zaj2 m_FloorError ci_FloorError (gl10m0.g 0 rfl) (zaaa (qv av10m0 0 rfl) (zaaa zaas zaab zaai) zaae))) (zaam (zaln rfl (qv av10m0 0 rfl) (qv av10m0 1 rfl))))), ?_⟩
 (try dsimp only [cxOf])
 have xb := xi.xb
 walk_at "rd"
 rename_i d n1 n2
 exact q d n1 n2
theorem glx19m0 : AG (defScope (inClass (top 19) 0)) ["enumerate", "is_gate", "len", "NoNet", "is_below", "tuple"] := ⟨by decide +kernel⟩
theorem av19m0 : AF (defScope (inClass (top 19) 0)) ["self", "gates", "outs", "number", "gate", "out"] := ⟨by decide +kernel⟩
structure NIn (kd : SK) (H : Hp) (gl ol : Addr) (xs ys : List V) (gs : List GV) : Prop where
 g : SqX kd H gl xs
 o : SqX kd H ol ys
 l : GL H xs gs
 t : ∀ y ∈ ys, Th y
 n : gs.length ≤ 1000
 m : ys.length ≤ 1000
def spNet (C CT : Addr) : Sp := fun vs H Q E => ∃ (kd : SK) (nt dx gl ol : Addr) (xs ys : List V) (gs : List GV), vs = [.ref nt, .ref gl, .ref ol] ∧ H nt = some (.ins C dx []) ∧ NIn kd H gl ol xs ys gs ∧
 ((GoodTo gs gs.length ∧ (∀ y ∈ ys, belB y (gs.length : Int) = true) ∧ ∀ gp op H', Ch [nt] H H' → H' nt = some (.ins C dx (fldsNet gp op)) → H' gp = some (.tup xs) → H' op = some (.tup ys) → Q .non H') ∨
  (∃ s : Nat, GoodTo gs s ∧ BadAt gs s ∧ ∀ d H', Ch [] H H' → H' d = some (.xd [("gate", .int (s : Int))]) → E (.ref CT) (some d) H') ∨
  (GoodTo gs gs.length ∧ (∃ y ∈ ys, belB y (gs.length : Int) = false) ∧ ∀ d H', Ch [] H H' → H' d = some (.xd [("gate", .int (-1))]) → E (.ref CT) (some d) H'))
theorem scNet : FnScope ["self", "gates", "outs", "number", "gate", "out"] ["self", "gates", "outs"] (defScope (inClass (top 19) 0)) := ⟨rfl, rfl, rfl, by decide +kernel, rfl, by decide +kernel, by decide +kernel⟩
theorem zal7 {C CT : Addr} (F : Fun K "__init__" "Net.__init__" (inClass (top 19) 0) f fd) (cl : Cls K C) (nG : NoAttr K C "gates") (nO : NoAttr K C "outs") (R_NoNet : RaiseOk P w K mg base k "NoNet" CT "gate") (Dis_gate : DefOk P w K mg base CX0 (k + 1) "is_gate" ["thing", "ahead", "total"] spGate)
  (Dis_below : DefOk P w K mg base CX0 (k + 1) "is_below" ["thing", "bound"] spBelow) (z_enumerate : mg "enumerate" = none) (z_len : mg "len" = none) (z_tuple : mg "tuple" = none) : FnOk P w K mg base (CXE P w) (k + 2) f fd ["self", "gates", "outs"] (spNet C CT) := by
 have nd := scNet.nd
 refine F.okE scNet (fun vs H Q E h => by obtain ⟨kd, nt, dx, gl, ol, xs, ys, gs, rfl, _⟩ := h; rfl) (fun cdv A outer s H vs Q E hr h => ?_)
 obtain ⟨kd, nt, dx, gl, ol, xs, ys, gs, rfl, hn, ni, q⟩ := h
 have hrm := hr
 refine ⟨_, (Pr.h (zaaj (zab5 powE rfl (zado kd (glx19m0.g 0 rfl) z_enumerate (zaaa (qv av19m0 1 rfl) zaab zaae)) (zag2 rfl (zaa8 (zaay (i := 3) nd rfl (av19m0.l 3 rfl)) (zaa8 (zaay (i := 4) nd rfl (av19m0.l 4 rfl)) zacf))) (zaam (zaa2 (zabq (zaa7 (zaap Dis_gate hr (glx19m0.g 1 rfl) pass0 (zaaa (qv av19m0 4 rfl) (zaaa (qv av19m0 3 rfl) (zaaa (zaac zaal (glx19m0.g 2 rfl) z_len PySem.boot_len (zaaa (qv av19m0 1 rfl) zaab zaae) zaa5 zaa6) zaab zaa4) zaae) zaae) zais))) (zaam (zae9 R_NoNet hrm (glx19m0.g 3 rfl) (zaaa (qv av19m0 3 rfl) zaab zaae))) zaar))) (zaaj (zab5 powE rfl (zanf K rfl kd (qv av19m0 2 rfl)) (zaay (i := 5) nd rfl (av19m0.l 5 rfl)) (zaam (zaa2 (zabq (zaa7 (zaap Dis_below hr (glx19m0.g 4 rfl) pass0 (zaaa (qv av19m0 5 rfl) (zaaa (zaac zaal (glx19m0.g 2 rfl) z_len PySem.boot_len (zaaa (qv av19m0 1 rfl) zaab zaae) zaa5 zaa6) zaab zaa4) zaae) zac3))) (zaam (zae9 R_NoNet hrm (glx19m0.g 3 rfl) (zaaa (zadl zadi zaad) zaab zabx))) zaar))) (zaaj (zajn (qv av19m0 0 rfl) (zabo zabw (glx19m0.g 5 rfl) z_tuple zabl (zaaa (qv av19m0 1 rfl) zaab zaae) zabm zabn) rfl) (zaam (zajn (qv av19m0 0 rfl) (zabo zabw (glx19m0.g 5 rfl) z_tuple zabl (zaaa (qv av19m0 2 rfl) zaab zaae) zabm zabn) rfl)))))), ?_⟩
 (try dsimp only [cxOf])
 have hx := ni.l.len
 walk_at "rd"
 refine ⟨⟨_, ni.g.sq⟩, ?_⟩
 have qs : ∃ s : Nat, s ≤ gs.length ∧ GoodTo gs s ∧ ((BadAt gs s ∧ ∀ d H', Ch [] H H' → H' d = some (.xd [("gate", .int (s : Int))]) → E (.ref CT) (some d) H') ∨
   (s = gs.length ∧ (((∀ y ∈ ys, belB y (gs.length : Int) = true) ∧ ∀ gp op H', Ch [nt] H H' → H' nt = some (.ins C dx (fldsNet gp op)) → H' gp = some (.tup xs) → H' op = some (.tup ys) → Q .non H') ∨
    ((∃ y ∈ ys, belB y (gs.length : Int) = false) ∧ ∀ d H', Ch [] H H' → H' d = some (.xd [("gate", .int (-1))]) → E (.ref CT) (some d) H')))) := by
  rcases q with ⟨a, b⟩ | ⟨s, a, ⟨g, eg, b⟩, c⟩ | ⟨a, b⟩
  ·exact ⟨_, Nat.le_refl _, a, .inr ⟨rfl, .inl b⟩⟩
  ·exact ⟨s, Nat.le_of_lt (List.getElem?_eq_some_iff.mp eg).1, a, .inl ⟨⟨g, eg, b⟩, c⟩⟩
  ·exact ⟨_, Nat.le_refl _, a, .inr ⟨rfl, .inr b⟩⟩
 obtain ⟨sp, sl, good, qs⟩ := qs
 clear q
 have lx : xs.length ≤ 1000 := by have := ni.n; omega
 refine zajq (xs := xs) (fun i σ H' => i ≤ sp ∧ Ch [] H H' ∧ ∃ u v r, σ = [some (.ref nt), some (.ref gl), some (.ref ol), u, v, r]) ⟨Nat.zero_le _, Ch.refl _ _, _, _, _, rfl⟩ ?_ ?_ ?_
 ·rintro i σ H' hi ⟨_, c, _⟩
  exact (ni.g.ch c).sq
 ·rintro i x σ H' T hx' ⟨il, c, u, v, r, rfl⟩ hT
  have hi : i < gs.length := by rw [← hx]; exact (List.getElem?_eq_some_iff.mp hx').1
  obtain ⟨g, hgi⟩ : ∃ g, gs[i]? = some g := ⟨_, List.getElem?_eq_getElem hi⟩
  obtain ⟨v0, ev, gv⟩ := (ni.l.ch (c.trans (Ch.new hT (.tup [.int (i : Int), x])))).at_ i g hgi
  rw [hx'] at ev
  cases ev
  have gsq : SqX kd (upd H' T (.tup [.int (i : Int), x])) gl xs := ni.g.ch (c.trans (Ch.new hT _))
  have gor := @SqX.or kd K _ _ _ gsq
  walk_at "rd"
  rename_i H2 c2
  by_cases his : i < sp
  ·have e' : gvB (i : Int) (xs.length : Int) g = true := by rw [hx]; exact good i g his hgi
   rw [e']
   refine ite2 (fun h => absurd h (by decide)) (fun _ => ?_)
   have c3 := (c.trans (Ch.new hT _)).trans c2
   clear c2 gor gsq gv
   walk_at "rd"
  ·have eis : i = sp := by omega
   subst eis
   rcases qs with ⟨⟨g', eg, eb⟩, q⟩ | ⟨e, _⟩
   ·rw [hgi] at eg
    cases eg
    have e' : gvB (i : Int) (xs.length : Int) g = false := by rw [hx]; exact eb
    rw [e']
    refine ite2 (fun _ => ?_) (fun h => absurd rfl h)
    have c3 := (c.trans (Ch.new hT _)).trans c2
    clear c2 gor gsq gv
    walk_at "rd"
    rename_i d hd
    exact q d _ (c3.trans (Ch.new hd _)) zaak
   ·omega
 ·rintro σ H1 ⟨il, c1, u, v, r, rfl⟩
  rcases qs with ⟨⟨g', eg, _⟩, _⟩ | ⟨_, qs⟩
  ·have := (List.getElem?_eq_some_iff.mp eg).1
   omega
  clear good il sl
  have ly := ni.m
  walk_at "rd"
  refine ⟨⟨_, (ni.o.ch c1).sq⟩, ?_⟩
  refine zank (xs := ys) (fun i σ H' => Ch [] H H' ∧ (∀ j y, j < i → ys[j]? = some y → belB y (gs.length : Int) = true) ∧ ∃ u v r, σ = [some (.ref nt), some (.ref gl), some (.ref ol), u, v, r]) ⟨c1, fun j y h => absurd h (Nat.not_lt_zero _), _, _, _, rfl⟩ ?_ ?_ ?_
  ·rintro i σ H' hi ⟨c, _⟩
   exact (ni.o.ch c).sq
  ·rintro i y σ H' hy ⟨c, al, u, v, r, rfl⟩
   have ty := ni.t y (List.mem_of_getElem? hy)
   have gor := @SqX.or kd K _ _ _ (ni.g.ch c)
   walk_at "rd"
   cases eb : belB y (gs.length : Int) with
   | true =>
    have e' : belB y (xs.length : Int) = true := by rw [hx]; exact eb
    rw [e']
    refine ite2 (fun h => absurd h (by decide)) (fun _ => ?_)
    have al2 : ∀ j z, j < i + 1 → ys[j]? = some z → belB z (gs.length : Int) = true := fun j z hj hz => by
     by_cases h : j < i
     ·exact al j z h hz
     ·have : j = i := by omega
      subst this
      rw [hy] at hz
      cases hz
      exact eb
    clear gor al
    walk_at "rd"
   | false =>
    rcases qs with ⟨ay, _⟩ | ⟨_, q⟩
    ·rw [ay y (List.mem_of_getElem? hy)] at eb; cases eb
    ·have e' : belB y (xs.length : Int) = false := by rw [hx]; exact eb
     rw [e']
     refine ite2 (fun _ => ?_) (fun h => absurd rfl h)
     clear gor al
     walk_at "rd"
     rename_i d hd
     exact q d _ (c.trans (Ch.new hd _)) zaak
  ·rintro σ H2 ⟨c2, al, u, v, r, rfl⟩
   rcases qs with ⟨_, q⟩ | ⟨⟨y, hy, eb⟩, _⟩
   ·have hn2 : H2 nt = some (.ins C dx []) := c2.get hn (by simp)
    have og := ni.g.ch c2
    have oo := ni.o.ch c2
    clear al
    cases kd with
    | list =>
     have og : H2 gl = some (.lst xs) := og
     have oo : H2 ol = some (.lst ys) := oo
     walk_at "rd"
     rename_i l1 hl1 l2 hl2
     have n1 : l1 ≠ nt := (zaan hn2 hl1).symm
     have n2 : l2 ≠ nt := by
      intro z
      rw [z, zaak] at hl2
      cases hl2
     exact q l1 l2 _ (((((Ch.wk c2).trans (Ch.new hl1 _)).trans Ch.put).trans (Ch.new hl2 _)).trans Ch.put) zaak (zacc n1 (zaa3 hl2 (zacc n1 zaak))) (zacc n2 zaak)
    | tuple =>
     have og : H2 gl = some (.tup xs) := og
     have oo : H2 ol = some (.tup ys) := oo
     have ng : gl ≠ nt := zamb og hn2 (by intro z; cases z)
     have no : ol ≠ nt := zamb oo hn2 (by intro z; cases z)
     walk_at "rd"
     exact q gl ol _ (((Ch.wk c2).trans Ch.put).trans Ch.put) zaak (zacc ng (zacc ng og)) (zacc no (zacc no oo))
   ·obtain ⟨j, hj⟩ := List.getElem?_of_mem hy
    rw [al j y (List.getElem?_eq_some_iff.mp hj).1 hj] at eb
    cases eb
end
end

section
def spNext (K : PySem.W.Frag) : Sp := fun vs H Q _ => ∃ (a b : Addr) (ns : List Int) (c : Int), vs = [.ref a, .ref b] ∧ Scr K H a ns ∧ H b = some (.lst [.int c]) ∧ 0 ≤ c ∧ c < 2 ^ 60 ∧
 ∀ (n : Int) (H' : Hp), 0 ≤ n → n < 2147483629 → Ch [b] H H' → H' b = some (.lst [.int (c + 1)]) → Q (.int n) H'
theorem zah6 {α : Type} (x : α) : ∀ n : Nat, (List.replicate n [x]).flatten = List.replicate n x
 | 0 => rfl
 | n + 1 => by rw [List.replicate_succ, List.flatten_cons, zah6 x n, List.replicate_succ]; rfl
section
variable {P : Program} {w : World} {K : PySem.W.Frag} {mg : Str → Option Value} {base : Heap} {f : Addr} {fd : FuncData} {k : Nat}
theorem av24 : AF (defScope (top 24)) ["_law_script", "_law_at", "_law_cell", "_law_figures", "_law_k", "_law_m"] := ⟨by decide +kernel⟩
theorem gl24 : AG (defScope (top 24)) ["len", "range"] := ⟨by decide +kernel⟩
theorem scNext : FnScope ["_law_script", "_law_at", "_law_cell", "_law_figures", "_law_k", "_law_m"] ["_law_script", "_law_at"] (defScope (top 24)) := ⟨rfl, rfl, rfl, by decide +kernel, rfl, by decide +kernel, by decide +kernel⟩
theorem zanl (F : Fun K "_law_next" "_law_next" (top 24) f fd) (z_len : mg "len" = none) (z_range : mg "range" = none) :
  FnOk P w K mg base CX0 (k + 1) f fd ["_law_script", "_law_at"] (spNext K) := by
 have nd := scNext.nd
 refine F.ok scNext (fun vs H Q E h => ?_) (fun cdv A outer s H vs Q E hr h => ?_)
 ·obtain ⟨a, b, ns, c, rfl, _⟩ := h
  rfl
 obtain ⟨a, b, ns, c, rfl, hS, hb, h0, h1, q⟩ := h
 refine ⟨_, (Pr.h (zaaj (zafm (zaao zacw (zaaz zaba (qv av24 1 rfl) zaad (fun _ _ => rfl)) zaad) (zag3 (qv av24 1 rfl) zaad zafd)) (zaaj (zaa0 (i := 2) nd rfl (av24.l 2 rfl) zaad) (zab6 (zaa2 (zaau zaid (zaac zaal (gl24.g 0 rfl) z_len PySem.boot_len (zaaa (qv av24 0 rfl) zaab zaae) zaa5 zaa6) zaad (nomark _)) (zaam (zaa0 (i := 2) nd rfl (av24.l 2 rfl) (zaaz zaba (qv av24 0 rfl) (zaao zabk (zaaz zaba (qv av24 1 rfl) zaad (fun _ _ => rfl)) (zaac zaal (gl24.g 0 rfl) z_len PySem.boot_len (zaaa (qv av24 0 rfl) zaab zaae) zaa5 zaa6)) (fun _ _ => rfl)))) zaar) (zab6 (zaa2 (zaca (zajm (zaau zaid (zaac zaal (gl24.g 0 rfl) z_len PySem.boot_len (zaaa (qv av24 0 rfl) zaab zaae) zaa5 zaa6) zaad (nomark _)) (zahy (zaau zac8 (zaao zabk (zaaz zaba (qv av24 0 rfl) zaad (fun _ _ => rfl)) zaad) zaad (nomark _))))) (zaaj (zaa0 (i := 3) nd rfl (av24.l 3 rfl) (qv av24 2 rfl)) (zaaj (zab5 PassesOwn.never rfl (zacr (gl24.g 1 rfl) z_range (zaaa (zaao zabk (zaao zabs (zaaz zaba (qv av24 1 rfl) zaad (fun _ _ => rfl)) (zaac zaal (gl24.g 0 rfl) z_len PySem.boot_len (zaaa (qv av24 0 rfl) zaab zaae) zaa5 zaa6)) zaad) zaab zabb)) (zaay (i := 4) nd rfl (av24.l 4 rfl)) (zaam (zaa0 (i := 3) nd rfl (av24.l 3 rfl) (zaao zabs (qv av24 3 rfl) zaad)))) (zaam (zaa2 (zaca (zacj (zaau zaeb (qv av24 3 rfl) (zaa9 (zaaa zaad (zaaa (zadl zadi zaad) zaab zabx) zaai)) rfl) (zab1 (zaau zaok (zaaz zaba (qv av24 1 rfl) zaad (fun _ _ => rfl)) (zaac zaal (gl24.g 0 rfl) z_len PySem.boot_len (zaaa (qv av24 0 rfl) zaab zaae) zaa5 zaa6) (nomark _))))) (zaam (zaat (zaao zabk (qv av24 3 rfl) zaad))) zaar)))) zaar) (zaaj (zaa0 (i := 5) nd rfl (av24.l 5 rfl) (zaao zabk (zaao zae5 (zaao zacw (zaao zacw (zaao zabk (qv av24 2 rfl) zaad) (zaao zae5 (zaao zae5 (zaaz zaba (qv av24 1 rfl) zaad (fun _ _ => rfl)) (zaaz zaba (qv av24 1 rfl) zaad (fun _ _ => rfl))) zaad)) zaad) zaad) zaad)) (zaaj (zaa0 (i := 5) nd rfl (av24.l 5 rfl) (zaao zabk (zaao zae5 (qv av24 5 rfl) (qv av24 5 rfl)) zaad)) (zaam (zaat (zaao zabk (zaao zae5 (zaao zacw (qv av24 5 rfl) (zaao zae5 (zaaz zaba (qv av24 1 rfl) zaad (fun _ _ => rfl)) zaad)) zaad) zaad)))))))))), ?_⟩
 have h63 : ns.length ≤ 63 := hS.1
 (try dsimp only [cxOf])
 walk_at "rd"
 refine zac9 (fun σ H' => ∃ n : Int, σ = [some (.ref a), some (.ref b), some (.int n), none, none, none] ∧ Ch [b] H H' ∧ H' b = some (.lst [.int (c + 1)])) ?_ ?_
 ·walk_at "rd"
  refine ite2 (fun hc => ?_) (fun hc => ?_)
  ·have hc' : 0 < (ns.length : Int) := by simpa using hc
   have e1 : 0 ≤ (c + 1) % (ns.length : Int) := Int.emod_nonneg _ (by omega)
   have e2 : (c + 1) % (ns.length : Int) < (ns.length : Int) := Int.emod_lt_of_pos _ hc'
   obtain ⟨n, hn⟩ := zahw e1 e2
   walk_at "rd"
  ·walk_at "rd"
 ·rintro σ H1 ⟨n, rfl, c1, b1⟩
  have hS1 : Scr K H1 a ns := hS.ch hb c1
  refine zac9 (fun σ H' => ∃ u v w, σ = [some (.ref a), some (.ref b), some (.int n), u, v, w] ∧ Ch [b] H H' ∧ H' b = some (.lst [.int (c + 1)])) ?_ ?_
  ·walk_at "rd"
   refine ite2 (fun hc => ?_) (fun hc => iteF ?_)
   ·have hc' : 0 < (ns.length : Int) := by simpa using hc
    obtain ⟨n0, hn0⟩ := zahw (ns := ns) (i := 0) (by omega) hc'
    walk_at "rd"
    refine ite2 (fun hd => ?_) (fun hd => ?_)
    ·walk_at "rd"
     refine zacd (fun i σ H' => H' = H1 ∧ ∃ g kk, σ = [some (.ref a), some (.ref b), some (.int n), some (.int g), kk, none]) ⟨rfl, _, _, rfl⟩ ?_ ?_
     ·rintro i σ H' hi ⟨rfl, g, kk, rfl⟩
      walk_at "rd"
     ·rintro σ H' ⟨rfl, g, kk, rfl⟩
      walk_at "rd"
      refine ite2 (fun hd => iteT ?_) (fun hd => ?_)
      ·walk_at "rd"
       exact q _ _ (Int.emod_nonneg _ (by decide)) (Int.lt_of_lt_of_le (Int.emod_lt_of_pos _ (by decide)) (by decide)) (c1.trans (Ch.new (by assumption) _)) (by walk_at "get")
      ·walk_at "rd"
       refine ite2 (fun he => ?_) (fun he => ?_)
       ·walk_at "rd"
        exact q _ _ (Int.emod_nonneg _ (by decide)) (Int.lt_of_lt_of_le (Int.emod_lt_of_pos _ (by decide)) (by decide)) (c1.trans (Ch.new (by assumption) _)) (by walk_at "get")
       ·walk_at "rd"
    ·walk_at "rd"
   ·walk_at "rd"
  ·rintro σ H2 ⟨u, v, w, rfl, c2, b2⟩
   walk_at "rd"
   exact q _ _ (Int.emod_nonneg _ (by decide)) (Int.emod_lt_of_pos _ (by decide)) c2 b2
end
theorem Gs.push {H : Hp} {gs : List Gt} {xs : List V} {gl p : Addr} {g : Gt} {ys : List V} (h : Gs H gs xs) (hg : H gl = some (.lst ys)) (hp : H p = some (.tup g.vs)) : Gs (upd H gl (.lst (xs ++ [.ref p]))) (gs ++ [g]) (xs ++ [.ref p]) := by
 have t : Tu H (upd H gl (.lst (xs ++ [.ref p]))) := Tu.lst Ch.put hg
 refine ⟨by simp [h.len], fun i g' e => ?_⟩
 by_cases hi : i < gs.length
 ·rw [List.getElem?_append_left hi] at e
  obtain ⟨p', h1, h2⟩ := h.at_ i g' e
  exact ⟨p', by rw [List.getElem?_append_left (by rw [h.len]; exact hi)]; exact h1, t _ _ h2⟩
 ·rw [List.getElem?_append_right (by omega)] at e
  have hi0 : i - gs.length = 0 := by
   rcases Nat.eq_zero_or_pos (i - gs.length) with z | z
   ·exact z
   ·rw [List.getElem?_eq_none (by simp; omega)] at e; cases e
  rw [hi0] at e
  cases e
  refine ⟨p, ?_, t _ _ hp⟩
  rw [List.getElem?_append_right (by rw [h.len]; omega), h.len, hi0]; rfl
theorem Gs.set {H : Hp} {gs : List Gt} {xs : List V} {gl p : Addr} {g : Gt} {ys : List V} {j : Nat} (h : Gs H gs xs) (hg : H gl = some (.lst ys)) (hp : H p = some (.tup g.vs)) : Gs (upd H gl (.lst (xs.set j (.ref p)))) (gs.set j g) (xs.set j (.ref p)) := by
 have t : Tu H (upd H gl (.lst (xs.set j (.ref p)))) := Tu.lst Ch.put hg
 refine ⟨by simp [h.len], fun i g' e => ?_⟩
 rw [List.getElem?_set] at e ⊢
 split at e
 ·split at e
  ·cases e
   rename_i h1 h2
   refine ⟨p, ?_, t _ _ hp⟩
   rw [if_pos h1, if_pos (by rw [h.len]; exact h2)]
  ·cases e
 ·rename_i h1
  obtain ⟨p', h2, h3⟩ := h.at_ i g' e
  exact ⟨p', by rw [if_neg h1]; exact h2, t _ _ h3⟩
theorem Gt.ok_mono {g : Gt} {i n m : Nat} (h : g.ok i n) (hm : n ≤ m) : g.ok i m := by
 cases g <;> simp only [Gt.ok] at * <;> first | trivial | omega
theorem Oks.push {gs : List Gt} {g : Gt} (h : Oks gs) (hg : g.ok gs.length (gs.length + 1)) : Oks (gs ++ [g]) := by
 intro i g' e
 rw [List.length_append, List.length_singleton]
 by_cases hi : i < gs.length
 ·rw [List.getElem?_append_left hi] at e
  exact Gt.ok_mono (h i g' e) (by omega)
 ·rw [List.getElem?_append_right (by omega)] at e
  have hi0 : i - gs.length = 0 := by
   rcases Nat.eq_zero_or_pos (i - gs.length) with z | z
   ·exact z
   ·rw [List.getElem?_eq_none (by simp; omega)] at e; cases e
  rw [hi0] at e
  cases e
  rw [show i = gs.length by omega]; exact hg
theorem Oks.set {gs : List Gt} {g : Gt} {j : Nat} (h : Oks gs) (hg : g.ok j gs.length) : Oks (gs.set j g) := by
 intro i g' e
 rw [List.length_set]
 rw [List.getElem?_set] at e
 split at e
 ·split at e
  ·cases e
   rename_i h1 _
   rw [← h1]; exact hg
  ·cases e
 ·exact h i g' e
theorem zafa {t : Gt → Bool} {g g' : Gt} : ∀ {gs : List Gt} {j : Nat}, gs[j]? = some g → t g = t g' → (gs.set j g').countP t = gs.countP t
 | [], _, h, _ => by simp at h
 | a :: gs, 0, h, e => by
  simp at h
  subst h
  simp [List.countP_cons, e]
 | a :: gs, j + 1, h, e => by
  have := zafa (gs := gs) (j := j) (by simpa using h) e
  simp [List.countP_cons, this]
def WS : List Str := ["and", "or", "xor", "pick", "not", "and", "xor", "or", "zero", "one"]
def arW (x : Str) : Nat := if x = "zero" then 0 else if x = "one" then 0 else if x = "not" then 1 else if x = "pick" then 3 else 2
theorem mkG {x : Str} (hx : x ∈ WS) {fs : List Nat} (hl : fs.length = arW x) {i : Nat} (hf : ∀ a ∈ fs, a < i) : ∃ g : Gt, g.vs = .str x :: fs.map nV ∧ g.ok i (i + 1) ∧ g.isIn = false ∧ g.isKeep = false := by
 have two : ∀ {fs : List Nat}, fs.length = 2 → ∃ a b, fs = [a, b] := fun {fs} h => by
  match fs, h with
  | [a, b], _ => exact ⟨a, b, rfl⟩
 have d2 : ∀ {y : Str}, arW y = 2 → fs.length = arW y → ∃ a b, fs = [a, b] := fun h1 h2 => two (h2.trans h1)
 simp only [WS, List.mem_cons, List.not_mem_nil, or_false] at hx
 rcases hx with rfl | rfl | rfl | rfl | rfl | rfl | rfl | rfl | rfl | rfl
 ·obtain ⟨a, b, rfl⟩ := d2 (by decide +kernel) hl
  exact ⟨.and a b, rfl, ⟨hf a (by simp), hf b (by simp)⟩, rfl, rfl⟩
 ·obtain ⟨a, b, rfl⟩ := d2 (by decide +kernel) hl
  exact ⟨.or a b, rfl, ⟨hf a (by simp), hf b (by simp)⟩, rfl, rfl⟩
 ·obtain ⟨a, b, rfl⟩ := d2 (by decide +kernel) hl
  exact ⟨.xor a b, rfl, ⟨hf a (by simp), hf b (by simp)⟩, rfl, rfl⟩
 ·have hl : fs.length = 3 := hl.trans (by decide +kernel)
  match fs, hl with
  | [a, b, c], _ => exact ⟨.pick a b c, rfl, ⟨hf a (by simp), hf b (by simp), hf c (by simp)⟩, rfl, rfl⟩
 ·have hl : fs.length = 1 := hl.trans (by decide +kernel)
  match fs, hl with
  | [a], _ => exact ⟨.not a, rfl, hf a (by simp), rfl, rfl⟩
 ·obtain ⟨a, b, rfl⟩ := d2 (by decide +kernel) hl
  exact ⟨.and a b, rfl, ⟨hf a (by simp), hf b (by simp)⟩, rfl, rfl⟩
 ·obtain ⟨a, b, rfl⟩ := d2 (by decide +kernel) hl
  exact ⟨.xor a b, rfl, ⟨hf a (by simp), hf b (by simp)⟩, rfl, rfl⟩
 ·obtain ⟨a, b, rfl⟩ := d2 (by decide +kernel) hl
  exact ⟨.or a b, rfl, ⟨hf a (by simp), hf b (by simp)⟩, rfl, rfl⟩
 ·have hl : fs.length = 0 := hl.trans (by decide +kernel)
  match fs, hl with
  | [], _ => exact ⟨.zero, rfl, trivial, rfl, rfl⟩
 ·have hl : fs.length = 0 := hl.trans (by decide +kernel)
  match fs, hl with
  | [], _ => exact ⟨.one, rfl, trivial, rfl, rfl⟩
end

section
section
variable {P : Program} {w : World} {K : PySem.W.Frag} {mg : Str → Option Value} {base : Heap} {f : Addr} {fd : FuncData} {k : Nat}
theorem zabj : Nd "_law_next" := by decide +kernel
theorem zapb : bootBuiltins "max" = some (.builtin "max") := by decide +kernel
theorem zapc : ("max" : Str) ≠ "__name__" := by decide +kernel
theorem zapd : Nd "max" := by decide +kernel
theorem zape : bootBuiltins "min" = some (.builtin "min") := by decide +kernel
theorem zapf : ("min" : Str) ≠ "__name__" := by decide +kernel
theorem zapg : Nd "min" := by decide +kernel
structure NS (H0 H' : Hp) (b gl : Addr) (c B : Int) (gs : List Gt) (xs : List V) (ins : Nat) : Prop where
 ch : Ch [b] H0 H'
 at_ : ∃ c', H' b = some (.lst [.int c']) ∧ c ≤ c' ∧ c' ≤ c + B
 gl : H' gl = some (.lst xs)
 gg : Gs H' gs xs
 ok : Oks gs
 ci : gs.countP Gt.isIn = ins
 lo : ∀ i, i < ins → gs[i]? = some .inp
theorem NS.bump {H0 H' H1 : Hp} {b gl : Addr} {c c' B : Int} {gs : List Gt} {xs : List V} {ins : Nat} (n : NS H0 H' b gl c B gs xs ins) (nb : gl ≠ b) (hb : H' b = some (.lst [.int c'])) (c1 : Ch [b] H' H1) (hb1 : H1 b = some (.lst [.int (c' + 1)])) : NS H0 H1 b gl c (B + 1) gs xs ins := by
 obtain ⟨c'', h1, h2, h3⟩ := n.at_
 rw [hb] at h1
 injection h1 with h1; injection h1 with h1; injection h1 with h1 _; injection h1 with h1
 subst h1
 exact ⟨n.ch.trans c1, ⟨c' + 1, hb1, by omega, by omega⟩, c1.get n.gl (by simpa using nb), n.gg.tu (Tu.lst c1 hb), n.ok, n.ci, n.lo⟩
theorem NS.wk {H0 H' : Hp} {b gl : Addr} {c B B' : Int} {gs : List Gt} {xs : List V} {ins : Nat} (n : NS H0 H' b gl c B gs xs ins) (h : B ≤ B') : NS H0 H' b gl c B' gs xs ins := by
 obtain ⟨c'', h1, h2, h3⟩ := n.at_
 exact ⟨n.ch, ⟨c'', h1, h2, by omega⟩, n.gl, n.gg, n.ok, n.ci, n.lo⟩
theorem NS.same {H0 H' H1 : Hp} {b gl : Addr} {c B : Int} {gs : List Gt} {xs : List V} {ins : Nat} (n : NS H0 H' b gl c B gs xs ins) (c1 : Ch [] H' H1) : NS H0 H1 b gl c B gs xs ins := by
 obtain ⟨c'', h1, h2, h3⟩ := n.at_
 exact ⟨n.ch.trans (Ch.wk c1), ⟨c'', c1.get h1 (by simp), h2, h3⟩, c1.get n.gl (by simp), n.gg.tu (Tu.same c1), n.ok, n.ci, n.lo⟩
theorem NS.push {H0 H' : Hp} {b gl p : Addr} {c B : Int} {gs : List Gt} {xs : List V} {ins : Nat} {g : Gt} (n : NS H0 H' b gl c B gs xs ins) (nb : gl ≠ b) (fg : H0 gl = none) (hp : H' p = some (.tup g.vs)) (hg : g.ok gs.length (gs.length + 1)) (hi : g.isIn = false) : NS H0 (upd H' gl (.lst (xs ++ [.ref p]))) b gl c B (gs ++ [g]) (xs ++ [.ref p]) ins := by
 obtain ⟨c'', h1, h2, h3⟩ := n.at_
 refine ⟨Ch.own fg n.ch, ⟨c'', zacc nb.symm h1, h2, h3⟩, zaak, n.gg.push n.gl hp, n.ok.push hg, ?_, fun i h => ?_⟩
 ·rw [List.countP_append, n.ci]; simp [hi]
 ·have := n.lo i h
  rw [List.getElem?_append_left (List.getElem?_eq_some_iff.mp this).1]; exact this
theorem NS.set {H0 H' : Hp} {b gl p : Addr} {c B : Int} {gs : List Gt} {xs : List V} {ins j : Nat} {g g0 : Gt} (n : NS H0 H' b gl c B gs xs ins) (nb : gl ≠ b) (fg : H0 gl = none) (hp : H' p = some (.tup g.vs)) (hj : gs[j]? = some g0) (hg : g.ok j gs.length) (hi : g0.isIn = g.isIn) (hl : ins ≤ j) : NS H0 (upd H' gl (.lst (xs.set j (.ref p)))) b gl c B (gs.set j g) (xs.set j (.ref p)) ins := by
 obtain ⟨c'', h1, h2, h3⟩ := n.at_
 refine ⟨Ch.own fg n.ch, ⟨c'', zacc nb.symm h1, h2, h3⟩, zaak, n.gg.set n.gl hp, n.ok.set hg, ?_, fun i h => ?_⟩
 ·rw [zafa hj hi, n.ci]
 ·rw [List.getElem?_set_ne (by omega)]; exact n.lo i h
theorem NS.own {H0 H' : Hp} {b gl p : Addr} {c B : Int} {gs : List Gt} {xs ys zs : List V} {ins : Nat} (n : NS H0 H' b gl c B gs xs ins) (f : H0 p = none) (pb : p ≠ b) (pg : p ≠ gl) (hp : H' p = some (.lst ys)) : NS H0 (upd H' p (.lst zs)) b gl c B gs xs ins := by
 obtain ⟨c'', h1, h2, h3⟩ := n.at_
 exact ⟨Ch.own f n.ch, ⟨c'', zacc pb.symm h1, h2, h3⟩, zacc pg.symm n.gl, n.gg.tu (Tu.lst Ch.put hp), n.ok, n.ci, n.lo⟩
theorem NS.fresh {H0 H' : Hp} {b gl p : Addr} {c B c0 : Int} {gs : List Gt} {xs : List V} {ins : Nat} (n : NS H0 H' b gl c B gs xs ins) (hb : H0 b = some (.lst [.int c0])) (h : H' p = none) : H0 p = none ∧ p ≠ b ∧ p ≠ gl := by
 have f : H0 p = none := by
  cases e : H0 p with
  | none => rfl
  | some o =>
   by_cases z : p = b
   ·obtain ⟨c9, h9, _⟩ := n.at_
    rw [z, h9] at h; cases h
   ·have := n.ch.get e (by simpa using z)
    rw [this] at h; cases h
 exact ⟨f, (zaan hb f).symm, (zaan n.gl h).symm⟩
structure KP (gs : List Gt) (lo hi : Nat) : Prop where
 of : ∀ j, lo ≤ j → j < hi → ∃ ff a, gs[j]? = some (.keep ff a)
theorem KP.push {gs : List Gt} {lo hi : Nat} (h : KP gs lo hi) (g : Gt) : KP (gs ++ [g]) lo hi := .mk fun j a b => by
 obtain ⟨ff, x, e⟩ := h.of j a b
 exact ⟨ff, x, by rw [List.getElem?_append_left (List.getElem?_eq_some_iff.mp e).1]; exact e⟩
theorem KP.more {gs : List Gt} {lo : Nat} {ff : Int} {x : Nat} (h : KP gs lo gs.length) : KP (gs ++ [.keep ff x]) lo (gs.length + 1) := .mk fun j a b => by
 by_cases e : j < gs.length
 ·exact (h.push _).of j a e
 ·refine ⟨ff, x, ?_⟩
  rw [List.getElem?_append_right (by omega), show j - gs.length = 0 by omega]; rfl
theorem KP.set {gs : List Gt} {lo hi i : Nat} {ff : Int} {x : Nat} (h : KP gs lo hi) : KP (gs.set i (.keep ff x)) lo hi := .mk fun j a b => by
 obtain ⟨ff', x', e⟩ := h.of j a b
 rw [List.getElem?_set]
 split
 ·rw [if_pos (by rename_i z; rw [z]; exact (List.getElem?_eq_some_iff.mp e).1)]; exact ⟨_, _, rfl⟩
 ·exact ⟨_, _, e⟩
theorem zap3 {m : Int} (h0 : 0 ≤ m) (h1 : m < 10) : ∃ x ∈ WS, atI (WS.map V.str) m = some (.str x) := by
 have hk : m.toNat < WS.length := by show m.toNat < 10; omega
 have e : m = ((m.toNat : Nat) : Int) := by omega
 refine ⟨WS[m.toNat], List.getElem_mem hk, ?_⟩
 have := zadf (xs := WS.map V.str) (j := m.toNat) (v := .str WS[m.toNat]) (by rw [List.getElem?_map, List.getElem?_eq_getElem hk]; simp)
 rw [← e] at this
 exact this
structure Below (fs : List Nat) (n : Nat) : Prop where
 of : ∀ a ∈ fs, a < n
theorem Below.nil {n : Nat} : Below [] n := ⟨fun a h => by cases h⟩
theorem Below.snoc {fs : List Nat} {n a : Nat} (h : Below fs n) (ha : a < n) : Below (fs ++ [a]) n := ⟨fun b hb => by
 rcases List.mem_append.mp hb with h1 | h1
 ·exact h.of b h1
 ·rw [List.mem_singleton.mp h1]; exact ha⟩
def DD : List (Key × V) := [(Sum.inr "zero", .int 0), (Sum.inr "one", .int 0), (Sum.inr "not", .int 1), (Sum.inr "pick", .int 3)]
theorem zaph {x : Str} (hx : x ∈ WS) : (valV (mergeK [] DD) (Sum.inr x)).getD (.int 2) = .int (arW x : Int) := by
 simp only [WS, List.mem_cons, List.not_mem_nil, or_false] at hx
 rcases hx with rfl | rfl | rfl | rfl | rfl | rfl | rfl | rfl | rfl | rfl <;> decide +kernel
theorem zapi {x : Str} (hx : x ∈ WS) : arW x ≤ 3 := by
 simp only [WS, List.mem_cons, List.not_mem_nil, or_false] at hx
 rcases hx with rfl | rfl | rfl | rfl | rfl | rfl | rfl | rfl | rfl | rfl <;> decide +kernel
theorem zap4 {m : Int} (h0 : 0 ≤ m) (h1 : m < 2) : ∃ x ∈ WS, arW x = 0 ∧ atI [V.str "zero", V.str "one"] m = some (.str x) := by
 have : m = 0 ∨ m = 1 := by omega
 rcases this with rfl | rfl
 ·exact ⟨"zero", by decide +kernel, by decide +kernel, rfl⟩
 ·exact ⟨"one", by decide +kernel, by decide +kernel, rfl⟩
theorem av25 : AF (defScope (top 25)) ["_law_script", "_law_at", "_law_ins", "_law_keeps", "_law_many", "_law_gates", "_law_k", "_law_m", "_law_word_here", "_law_feeds", "_law_j", "_law_outs"] := ⟨by decide +kernel⟩
theorem gl25 : AG (defScope (top 25)) ["range", "_law_next", "len", "max", "tuple", "min"] := ⟨by decide +kernel⟩
def spLNet (K : PySem.W.Frag) : Sp := fun vs H Q _ => ∃ (a b : Addr) (ns : List Int) (c ins' keeps' many' : Int) (ins keeps many : Nat), vs = [.ref a, .ref b, .int ins', .int keeps', .int many'] ∧ ins' = (ins : Int) ∧ keeps' = (keeps : Int) ∧ many' = (many : Int) ∧ ins ≤ 12 ∧ keeps ≤ 12 ∧ many ≤ 24 ∧
 Scr K H a ns ∧ H b = some (.lst [.int c]) ∧ 0 ≤ c ∧ c < 2 ^ 59 ∧
 ∀ (R gl ol : Addr) (gs : List Gt) (xs : List V) (os : List Nat) (H' : Hp), NS H H' b gl c 1000 gs xs ins → H' R = some (.tup [.ref gl, .ref ol]) → gs.length ≤ 48 → H' ol = some (.lst (os.map nV)) → (∀ o ∈ os, o < gs.length) → os.length ≤ 4 → H gl = none → H ol = none → Q (.ref R) H'
theorem scLNet : FnScope ["_law_script", "_law_at", "_law_ins", "_law_keeps", "_law_many", "_law_gates", "_law_k", "_law_m", "_law_word_here", "_law_feeds", "_law_j", "_law_outs"] ["_law_script", "_law_at", "_law_ins", "_law_keeps", "_law_many"] (defScope (top 25)) := ⟨rfl, rfl, rfl, by decide +kernel, rfl, by decide +kernel, by decide +kernel⟩
theorem zanm (F : Fun K "_law_net" "_law_net" (top 25) f fd) (D_law_next : DefOk P w K mg base CX0 k "_law_next" ["_law_script", "_law_at"] (spNext K)) (z_len : mg "len" = none) (z_range : mg "range" = none) (z_max : mg "max" = none) (z_min : mg "min" = none) (z_tuple : mg "tuple" = none) :
  FnOk P w K mg base CX0 (k + 1) f fd ["_law_script", "_law_at", "_law_ins", "_law_keeps", "_law_many"] (spLNet K) := by
 have nd := scLNet.nd
 refine F.ok scLNet (fun vs H Q E h => by obtain ⟨a, b, ns, c, ins', keeps', many', ins, keeps, many, rfl, _⟩ := h; rfl) (fun cdv A outer s H vs Q E hr h => ?_)
 obtain ⟨a, b, ns, c, ins', keeps', many', ins, keeps, many, rfl, rfl, rfl, rfl, hi, hk, hm, hS, hb, h0, h1, q⟩ := h
 have hu := zapy hr
 refine ⟨_, (Pr.h (zaaj (zaa0 (i := 5) nd rfl (av25.l 5 rfl) (zaao zaow (zabd (zaaa (zaa9 (zaaa zaas zaab zaai)) zaab zabg)) (qv av25 2 rfl))) (zaaj (zab5 PassesOwn.never rfl (zacr (gl25.g 0 rfl) z_range (zaaa (qv av25 3 rfl) zaab zaae)) (zaay (i := 6) nd rfl (av25.l 6 rfl)) (zaam (zaco (zaec PySem.F.plainAttrs_list PySem.F.slot_list_append PySem.F.type_list_append zach (qv av25 5 rfl) (zaaa (zaa9 (zaaa zaas (zaaa (zaao zabk (zaap D_law_next hr (gl25.g 1 rfl) pass0 (zaaa (qv av25 0 rfl) (zaaa (qv av25 1 rfl) zaab zaae) zaae) zabj) zaad) (zaaa zaad zaab zaai) zabb) zaai)) zaab zabg))))) (zaaj (zab5 PassesOwn.never rfl (zacr (gl25.g 0 rfl) z_range (zaaa (qv av25 4 rfl) zaab zaae)) (zaay (i := 6) nd rfl (av25.l 6 rfl)) (zaaj (zaa0 (i := 7) nd rfl (av25.l 7 rfl) (zaap D_law_next hr (gl25.g 1 rfl) pass0 (zaaa (qv av25 0 rfl) (zaaa (qv av25 1 rfl) zaab zaae) zaae) zabj)) (zaaj (zaa0 (i := 8) nd rfl (av25.l 8 rfl) (zaaz zaba (zabd (zaaa zaas (zaaa zaas (zaaa zaas (zaaa zaas (zaaa zaas (zaaa zaas (zaaa zaas (zaaa zaas (zaaa zaas (zaaa zaas zaab zaai) zaai) zaai) zaai) zaai) zaai) zaai) zaai) zaai) zaai)) (zaao zabk (qv av25 7 rfl) zaad) (fun _ _ => rfl))) (zab6 (zaa2 (zaca (zajm (zaau zac8 (zaac zaal (gl25.g 2 rfl) z_len PySem.boot_len (zaaa (qv av25 5 rfl) zaab zaae) zaa5 zaa6) zaad (nomark _)) (zahy (zaau zaeb (qv av25 8 rfl) (zaa9 (zaaa zaas (zaaa zaas zaab zaai) zaai)) rfl)))) (zaam (zaa0 (i := 8) nd rfl (av25.l 8 rfl) (zaaz zaba (zabd (zaaa zaas (zaaa zaas zaab zaai) zaai)) (zaao zabk (zaao zabs (qv av25 7 rfl) zaad) zaad) (fun _ _ => rfl)))) zaar) (zaaj (zaa0 (i := 9) nd rfl (av25.l 9 rfl) (zabd zaab)) (zaaj (zab5 PassesOwn.never rfl (zacr (gl25.g 0 rfl) z_range (zaaa (zajs hu (zalc (zadp zaas zaad (zadp zaas zaad (zadp zaas zaad (zadp zaas zaad zalb)))) rfl rfl (by intro z; cases z) (by decide)) (qv av25 8 rfl) zaad ⟨rfl, rfl, rfl, rfl⟩) zaab zaa4)) (zaay (i := 10) nd rfl (av25.l 10 rfl)) (zaaj (zaa0 (i := 7) nd rfl (av25.l 7 rfl) (zaap D_law_next hr (gl25.g 1 rfl) pass0 (zaaa (qv av25 0 rfl) (zaaa (qv av25 1 rfl) zaab zaae) zaae) zabj)) (zaam (zaco (zaec PySem.F.plainAttrs_list PySem.F.slot_list_append PySem.F.type_list_append zach (qv av25 9 rfl) (zaaa (zaeo (zaau zac8 (zaao zabk (qv av25 7 rfl) zaad) zaad (nomark _)) (zaao zabk (zaao zabs (qv av25 7 rfl) zaad) (zaac zaal (gl25.g 2 rfl) z_len PySem.boot_len (zaaa (qv av25 5 rfl) zaab zaae) zaa5 zaa6)) (zaac (zai6 rfl) (gl25.g 3 rfl) z_max zapb (zaaa zaad (zaaa (zaao zaeh (zaao zaeh (zaac zaal (gl25.g 2 rfl) z_len PySem.boot_len (zaaa (qv av25 5 rfl) zaab zaae) zaa5 zaa6) zaad) (zaao zabk (zaao zabs (qv av25 7 rfl) zaad) zaad)) zaab zabb) zaai) zapc zapd)) zaab zahx)))))) (zaam (zaco (zaec PySem.F.plainAttrs_list PySem.F.slot_list_append PySem.F.type_list_append zach (qv av25 5 rfl) (zaaa (zabo zabw (gl25.g 4 rfl) z_tuple zabl (zaaa (zaao zac7 (zabd (zaaa (qv av25 8 rfl) zaab zaae)) (qv av25 9 rfl)) zaab zabb) zabm zabn) zaab zaa4)))))))))) (zaaj (zab5 PassesOwn.never rfl (zail (gl25.g 0 rfl) z_range (zaaa (qv av25 2 rfl) (zaaa (zaao zacw (qv av25 2 rfl) (qv av25 3 rfl)) zaab zabb) zaae)) (zaay (i := 6) nd rfl (av25.l 6 rfl)) (zaam (zafm (zaa9 (zaaa zaas (zaaa (zaaz zabf (zaaz zaba (qv av25 5 rfl) (qv av25 6 rfl) (fun _ _ => rfl)) zaad (fun _ _ => rfl)) (zaaa (zaao zabk (zaap D_law_next hr (gl25.g 1 rfl) pass0 (zaaa (qv av25 0 rfl) (zaaa (qv av25 1 rfl) zaab zaae) zaae) zabj) (zaac zaal (gl25.g 2 rfl) z_len PySem.boot_len (zaaa (qv av25 5 rfl) zaab zaae) zaa5 zaa6)) zaab zabb) zaaq) zaai)) (zag3 (qv av25 5 rfl) (qv av25 6 rfl) zafd)))) (zaaj (zaa0 (i := 11) nd rfl (av25.l 11 rfl) (zabd zaab)) (zaaj (zab5 PassesOwn.never rfl (zacr (gl25.g 0 rfl) z_range (zaaa (zaao zacw zaad (zaao zabk (zaap D_law_next hr (gl25.g 1 rfl) pass0 (zaaa (qv av25 0 rfl) (zaaa (qv av25 1 rfl) zaab zaae) zaae) zabj) zaad)) zaab zabb)) (zaay (i := 6) nd rfl (av25.l 6 rfl)) (zaam (zaa2 (zaau zaid (zaac zaal (gl25.g 2 rfl) z_len PySem.boot_len (zaaa (qv av25 5 rfl) zaab zaae) zaa5 zaa6) zaad (nomark _)) (zaaj (zaa0 (i := 7) nd rfl (av25.l 7 rfl) (zaap D_law_next hr (gl25.g 1 rfl) pass0 (zaaa (qv av25 0 rfl) (zaaa (qv av25 1 rfl) zaab zaae) zaae) zabj)) (zaam (zaco (zaec PySem.F.plainAttrs_list PySem.F.slot_list_append PySem.F.type_list_append zach (qv av25 11 rfl) (zaaa (zaeo (zaau zac8 (zaao zabk (qv av25 7 rfl) zaad) zaad (nomark _)) (zaao zabk (zaao zabs (qv av25 7 rfl) zaad) (zaac zaal (gl25.g 2 rfl) z_len PySem.boot_len (zaaa (qv av25 5 rfl) zaab zaae) zaa5 zaa6)) (zaao zaeh (zaao zaeh (zaac zaal (gl25.g 2 rfl) z_len PySem.boot_len (zaaa (qv av25 5 rfl) zaab zaae) zaa5 zaa6) zaad) (zaao zabk (zaao zabs (qv av25 7 rfl) zaad) (zaac (zai7 rfl) (gl25.g 5 rfl) z_min zape (zaaa zaad (zaaa (zaac zaal (gl25.g 2 rfl) z_len PySem.boot_len (zaaa (qv av25 5 rfl) zaab zaae) zaa5 zaa6) zaab zaa4) zaai) zapf zapg)))) zaab zahx))))) zaar))) (zaam (zaat (zaa9 (zaaa (qv av25 5 rfl) (zaaa (qv av25 11 rfl) zaab zaae) zaae))))))))))), ?_⟩
 (try dsimp only [cxOf])
 walk_at "rd"
 rename_i p1 hp1 p2 hp2 gl hgl
 have fg : H gl = none := freeN hp1 (freeN hp2 hgl)
 have nb : gl ≠ b := (zaan hb fg).symm
 have st0 : NS H (upd (upd (upd H p1 (HO.tup [V.str (Str.ofString "in")])) p2 (HO.lst [V.ref p1])) gl (HO.lst (List.replicate ((ins : Int)).toNat [V.ref p1]).flatten)) b gl c 0 (List.replicate ins .inp) (List.replicate ins (.ref p1)) ins := by
  have cc : Ch [] H (upd (upd (upd H p1 (HO.tup [V.str (Str.ofString "in")])) p2 (HO.lst [V.ref p1])) gl (HO.lst (List.replicate ((ins : Int)).toNat [V.ref p1]).flatten)) := ((Ch.new hp1 _).trans (Ch.new hp2 _)).trans (Ch.new hgl _)
  refine ⟨Ch.wk cc, ⟨c, cc.get hb (by simp), by omega, by omega⟩, by rw [zaak, zah6]; simp, ⟨by simp, fun i g e => ?_⟩, fun i g e => ?_, by rw [List.countP_replicate]; rfl, fun i h => by rw [List.getElem?_replicate, if_pos h]⟩
  ·rw [List.getElem?_replicate] at e
   split at e
   ·cases e
    rename_i hi2
    exact ⟨p1, by rw [List.getElem?_replicate, if_pos hi2], zaa3 hgl (zaa3 hp2 zaak)⟩
   ·cases e
  ·rw [List.getElem?_replicate] at e
   split at e
   ·cases e
    exact True.intro
   ·cases e
 generalize (upd (upd (upd H p1 (HO.tup [V.str (Str.ofString "in")])) p2 (HO.lst [V.ref p1])) gl (HO.lst (List.replicate ((ins : Int)).toNat [V.ref p1]).flatten)) = H0 at st0 ⊢
 clear hgl hp2 hp1
 refine zacd (fun i σ H' => ∃ gs xs u, σ = [some (.ref a), some (.ref b), some (.int (ins : Int)), some (.int (keeps : Int)), some (.int (many : Int)), some (.ref gl), u, none, none, none, none, none] ∧ NS H H' b gl c (i : Int) gs xs ins ∧ gs.length = ins + i ∧ KP gs ins gs.length) ⟨_, _, _, rfl, st0, by simp, .mk fun j h1 h2 => ?_⟩ ?_ ?_
 ·simp at h2; omega
 ·rintro i σ H' hi' ⟨gs, xs, u, rfl, n, hl, kp⟩
  have hi2 : i < keeps := by simpa using hi'
  obtain ⟨c', hb1, hc1, hc2⟩ := n.at_
  have hS1 : Scr K H' a ns := hS.ch hb n.ch
  have hxl := n.gg.len
  have gl1 := n.gl
  have nc := n.ch
  walk_at "rd"
  rename_i z H2 hz0 hz1 c2 hb2 p hp
  have n2 := (n.bump nb hb1 c2 hb2).same (Ch.new hp (HO.tup [V.str (Str.ofString "keep"), V.int (z % 2), V.int 0]))
  have n3 := n2.push (g := .keep (z % 2) 0) nb fg zaak ⟨by omega, by omega, by omega⟩ rfl
  have gl2 := n2.gl
  walk_at "rd"
  rw [List.length_append]; exact kp.more
 ·rintro σ H' ⟨gs, xs, u, rfl, n, hl, kp⟩
  have hl : gs.length = ins + keeps := by simpa using hl
  rw [hl] at kp
  walk_at "rd"
  refine zacd (fun i σ H' => ∃ gs xs u1 u2 u3 u4 u5, σ = [some (.ref a), some (.ref b), some (.int (ins : Int)), some (.int (keeps : Int)), some (.int (many : Int)), some (.ref gl), u1, u2, u3, u4, u5, none] ∧ NS H H' b gl c (12 + 4 * i : Int) gs xs ins ∧ gs.length = ins + keeps + i ∧ KP gs ins (ins + keeps)) ⟨_, _, _, _, _, _, _, rfl, n.wk (by simp; omega), by omega, kp⟩ ?_ ?_
  ·skip
   rintro i σ H' hi' ⟨gs, xs, u1, u2, u3, u4, u5, rfl, n, hl, kp⟩
   have hi2 : i < many := by simpa using hi'
   obtain ⟨c', hb1, hc1, hc2⟩ := n.at_
   have hS1 : Scr K H' a ns := hS.ch hb n.ch
   have hxl := n.gg.len
   have gl1 := n.gl
   have nc := n.ch
   walk_at "rd"
   rename_i m H2 hm0 hm1 c2 hb2 p hp
   obtain ⟨x, hx, hat⟩ := zap3 (m := m % 10) (by omega) (by omega)
   refine Atx.of hat ?_
   have n2 := (n.bump nb hb1 c2 hb2).same (Ch.new hp (HO.lst (WS.map V.str)))
   have gl2 := n2.gl
   walk_at "rd"
   refine zac9 (fun σ H3 => ∃ x2, x2 ∈ WS ∧ (gs.length = 0 → arW x2 = 0) ∧ σ = [some (.ref a), some (.ref b), some (.int (ins : Int)), some (.int (keeps : Int)), some (.int (many : Int)), some (.ref gl), some (.int (0 + (i : Int))), some (.int m), some (.str x2), u4, u5, none] ∧ NS H H3 b gl c (12 + 4 * i + 1 : Int) gs xs ins) ?_ ?_
   ·walk_at "rd"
    refine ite2 (fun hc => ?_) (fun hc => iteF ?_)
    ·walk_at "rd"
     rename_i pz hpz
     refine ite2 (fun hd => ?_) (fun hd => ?_)
     ·obtain ⟨x2, hx2, hx3, hat2⟩ := zap4 (m := m / 10 % 2) (by omega) (by omega)
      walk_at "rd"
      exact (n2.same (Ch.new hpz _)).same (Ch.new (by assumption) _)
     ·have hz : arW x = 0 := by
       clear hat
       simp only [WS, List.mem_cons, List.not_mem_nil, or_false] at hx
       rcases hx with rfl | rfl | rfl | rfl | rfl | rfl | rfl | rfl | rfl | rfl <;> first | decide +kernel | (exfalso; revert hd; decide +kernel)
      exact ⟨x, hx, fun _ => hz, rfl, n2.same (Ch.new hpz _)⟩
    ·refine ⟨x, hx, fun z => ?_, rfl, n2⟩
     rw [← hxl] at z
     exact absurd (by rw [z]; decide) hc
   ·rintro σ H3 ⟨x2, hx2, hx0, rfl, n3⟩
    walk_at "rd"
    rename_i fl hfl dp hdp
    refine ⟨(rfl : _ = List.map (fun kv => (kV kv.1, kv.2)) DD), by decide, ?_⟩
    have hal := zapi hx2
    have hdg := zaph hx2
    have n4 := (n3.same (Ch.new hfl (HO.lst []))).same (Ch.own (o := HO.dK (mergeK [] DD)) hdp (Ch.new hdp (HO.dK [])))
    have fl4 : upd (upd (upd H3 fl (HO.lst [])) dp (HO.dK [])) dp (HO.dK (mergeK [] DD)) fl = some (HO.lst []) := Ch.get (W := []) (Ch.own hdp (Ch.new hdp (HO.dK []))) zaak (by simp)
    have ffl : H fl = none := by
     cases e : H fl with
     | none => rfl
     | some o =>
      by_cases z : fl = b
      ·obtain ⟨c9, h9, _⟩ := n3.at_
       rw [z, h9] at hfl; cases hfl
      ·have := n3.ch.get e (by simpa using z)
       rw [this] at hfl; cases hfl
    have nfb : fl ≠ b := (zaan hb ffl).symm
    have nfg : fl ≠ gl := (zaan n3.gl hfl).symm
    refine ⟨dp, rfl, Or.inl ⟨_, Or.inl zaak⟩, _, rfl, _, DGet.k (k := Sum.inr x2) zaak, ?_⟩
    rw [hdg]
    generalize upd (upd (upd H3 fl (HO.lst [])) dp (HO.dK [])) dp (HO.dK (mergeK [] DD)) = H4 at n4 fl4 ⊢
    walk_at "rd"
    refine zacd (fun j σ H5 => ∃ fs u2 u5, σ = [some (.ref a), some (.ref b), some (.int (ins : Int)), some (.int (keeps : Int)), some (.int (many : Int)), some (.ref gl), some (.int (0 + (i : Int))), u2, some (.str x2), some (.ref fl), u5, none] ∧ NS H H5 b gl c (12 + 4 * i + 1 + j : Int) gs xs ins ∧ H5 fl = some (.lst (List.map nV fs)) ∧ fs.length = j ∧ Below fs gs.length) ⟨[], _, _, rfl, n4.wk (by simp), fl4, rfl, .nil⟩ ?_ ?_
    ·rintro j σ H5 hj ⟨fs, v2, v5, rfl, n5, gf5, lf5, bf5⟩
     have hj2 : j < arW x2 := by simpa using hj
     have hgp : 0 < gs.length := by
      rcases Nat.eq_zero_or_pos gs.length with z | z
      ·have := hx0 z; omega
      ·exact z
     obtain ⟨c5, hb5, hc5, hd5⟩ := n5.at_
     have hS5 : Scr K H5 a ns := hS.ch hb n5.ch
     have gl5 := n5.gl
     walk_at "rd"
     rename_i z H6 hz0 hz1 c6 hb6
     have n6 := n5.bump nb hb5 c6 hb6
     have gl6 := n6.gl
     have gf6 : H6 fl = some (.lst (List.map nV fs)) := c6.get gf5 (by simpa using nfb)
     refine ite2 (fun he => ?_) (fun he => ?_)
     ·obtain ⟨q1, hq1, hq2⟩ : ∃ q1 : Nat, z / 2 % (xs.length : Int) = (q1 : Int) ∧ q1 < gs.length := by
       have h1 : 0 ≤ z / 2 % (xs.length : Int) := Int.emod_nonneg _ (by omega)
       have h2 : z / 2 % (xs.length : Int) < (xs.length : Int) := Int.emod_lt_of_pos _ (by omega)
       exact ⟨(z / 2 % (xs.length : Int)).toNat, by omega, by omega⟩
      walk_at "rd"
      refine ⟨(n6.own ffl nfb nfg gf6).wk (by omega), (by rw [zaak]; (try dsimp only); rw [hq1]; simp [nV] : _ = some (HO.lst (List.map nV (fs ++ [q1])))), by simp [lf5], bf5.snoc hq2⟩
     ·obtain ⟨q1, hq1, hq2⟩ : ∃ q1 : Nat, (if (xs.length : Int) - 1 - z / 2 % 4 > 0 then (xs.length : Int) - 1 - z / 2 % 4 else 0) = (q1 : Int) ∧ q1 < gs.length := by
       refine ⟨(if (xs.length : Int) - 1 - z / 2 % 4 > 0 then (xs.length : Int) - 1 - z / 2 % 4 else 0).toNat, ?_, ?_⟩ <;> split <;> omega
      walk_at "rd"
      refine ⟨(n6.own ffl nfb nfg gf6).wk (by omega), (by rw [zaak]; (try dsimp only); rw [hq1]; simp [nV] : _ = some (HO.lst (List.map nV (fs ++ [q1])))), by simp [lf5], bf5.snoc hq2⟩
    ·rintro σ H5 ⟨fs, v2, v5, rfl, n5, gf5, lf5, bf5⟩
     have lf5 : fs.length = arW x2 := by simpa using lf5
     have gl5 := n5.gl
     obtain ⟨g, eg, g1, g2, g3⟩ := mkG hx2 lf5 bf5.of
     walk_at "rd"
     rename_i e1 he1 e2 he2 e3 he3
     have n7 := ((n5.same (Ch.new he1 (HO.lst [V.str x2]))).same (Ch.new he2 (HO.lst ([V.str x2] ++ List.map nV fs)))).same (Ch.new he3 (HO.tup ([V.str x2] ++ List.map nV fs)))
     have n8 := n7.push (g := g) nb fg (by rw [zaak, eg]; rfl) g1 g2
     exact ⟨n8.wk (by omega), by simp; omega, kp.push _⟩
  ·skip
   rintro σ H' ⟨gs, xs, u1, u2, u3, u4, u5, rfl, n, hl, kp⟩
   have hl : gs.length = ins + keeps + many := by simpa using hl
   have n := n.wk (B' := 108) (by simp; omega)
   walk_at "rd"
   refine zacd (fun i σ H' => ∃ gs xs u1, σ = [some (.ref a), some (.ref b), some (.int (ins : Int)), some (.int (keeps : Int)), some (.int (many : Int)), some (.ref gl), u1, u2, u3, u4, u5, none] ∧ NS H H' b gl c (108 + i : Int) gs xs ins ∧ gs.length = ins + keeps + many ∧ KP gs ins (ins + keeps)) ⟨_, _, _, rfl, n.wk (by simp), hl, kp⟩ ?_ ?_
   ·skip
    rintro i σ H' hi' ⟨gs, xs, u1, rfl, n, hl, kp⟩
    have hi2 : i < keeps := by omega
    obtain ⟨ff, a0, hj⟩ := kp.of (ins + i) (by omega) (by omega)
    obtain ⟨f0, f1, _⟩ : 0 ≤ ff ∧ ff < 2 ∧ _ := n.ok _ _ hj
    obtain ⟨p, ep, hp⟩ := n.gg.at_ _ _ hj
    have hp : H' p = some (.tup [.str "keep", .int ff, .int a0]) := hp
    obtain ⟨c', hb1, hc1, hc2⟩ := n.at_
    have hS1 : Scr K H' a ns := hS.ch hb n.ch
    have hxl := n.gg.len
    have gl1 := n.gl
    have hat : atI xs ((ins : Int) + (i : Int)) = some (.ref p) := by
     have := zadf ep
     rwa [Int.natCast_add] at this
    have hix : ixN xs.length ((ins : Int) + (i : Int)) = some (ins + i) := by
     unfold ixN; rw [if_pos (by omega), if_pos (by omega)]; congr 1
    walk_at "rd"
    rename_i z H2 hz0 hz1 c2 hb2 tp htp
    have n2 := n.bump nb hb1 c2 hb2
    have h1 : 0 ≤ z % (xs.length : Int) := Int.emod_nonneg _ (by omega)
    have h2 : z % (xs.length : Int) < (xs.length : Int) := Int.emod_lt_of_pos _ (by omega)
    have n3 := n2.same (Ch.new htp (HO.tup [V.str (Str.ofString "keep"), V.int ff, V.int (z % (xs.length : Int))]))
    have gl3 := n3.gl
    have n4 := n3.set (g := .keep ff (z % (xs.length : Int)).toNat) nb fg (by rw [zaak]; show _ = some (HO.tup [_, _, V.int (((z % (xs.length : Int)).toNat : Nat) : Int)]); rw [show (((z % (xs.length : Int)).toNat : Nat) : Int) = z % (xs.length : Int) by omega]) hj ⟨f0, f1, by omega⟩ rfl (by omega)
    exact ⟨n4.wk (by omega), by simp [hl], kp.set⟩
   ·skip
    rintro σ H' ⟨gs, xs, u1, rfl, n, hl, kp⟩
    have n := n.wk (B' := 120) (by omega)
    obtain ⟨c', hb1, hc1, hc2⟩ := n.at_
    have hS1 : Scr K H' a ns := hS.ch hb n.ch
    have hxl := n.gg.len
    walk_at "rd"
    rename_i ol hol z H2 hz0 hz1 c2 hb2
    obtain ⟨fol, ob, og⟩ := n.fresh hb hol
    have n2 := (n.same (Ch.new hol (HO.lst []))).bump nb (zaa3 hol hb1) c2 hb2
    have o2 : H2 ol = some (.lst (List.map nV [])) := c2.get zaak (by simpa using ob)
    refine zacd (fun j σ H5 => ∃ os u6 u7, σ = [some (.ref a), some (.ref b), some (.int (ins : Int)), some (.int (keeps : Int)), some (.int (many : Int)), some (.ref gl), u6, u7, u3, u4, u5, some (.ref ol)] ∧ NS H H5 b gl c (121 + j : Int) gs xs ins ∧ H5 ol = some (.lst (List.map nV os)) ∧ os.length ≤ j ∧ Below os gs.length) ⟨[], _, _, rfl, n2.wk (by omega), o2, by simp, .nil⟩ ?_ ?_
    ·rintro j σ H5 hj ⟨os, v2, v5, rfl, n5, gf5, lf5, bf5⟩
     have hj2 : j < 4 := by omega
     obtain ⟨c5, hb5, hc5, hd5⟩ := n5.at_
     have hS5 : Scr K H5 a ns := hS.ch hb n5.ch
     have gl5 := n5.gl
     walk_at "rd"
     refine ite2 (fun hc => ?_) (fun hc => ?_)
     ·have hgp : 0 < gs.length := by
       have : 0 < (xs.length : Int) := by simpa using hc
       omega
      walk_at "rd"
      rename_i z H6 hz0 hz1 c6 hb6
      have n6 := n5.bump nb hb5 c6 hb6
      have gl6 := n6.gl
      have gf6 : H6 ol = some (.lst (List.map nV os)) := c6.get gf5 (by simpa using ob)
      refine ite2 (fun he => ?_) (fun he => ?_)
      ·obtain ⟨q1, hq1, hq2⟩ : ∃ q1 : Nat, z / 2 % (xs.length : Int) = (q1 : Int) ∧ q1 < gs.length := by
        have h1 : 0 ≤ z / 2 % (xs.length : Int) := Int.emod_nonneg _ (by omega)
        have h2 : z / 2 % (xs.length : Int) < (xs.length : Int) := Int.emod_lt_of_pos _ (by omega)
        exact ⟨(z / 2 % (xs.length : Int)).toNat, by omega, by omega⟩
       walk_at "rd"
       refine ⟨(n6.own fol ob og gf6).wk (by omega), (by rw [zaak]; (try dsimp only); rw [hq1]; simp [nV] : _ = some (HO.lst (List.map nV (os ++ [q1])))), by simp; omega, bf5.snoc hq2⟩
      ·obtain ⟨q1, hq1, hq2⟩ : ∃ q1 : Nat, (xs.length : Int) - 1 - z / 2 % (if (xs.length : Int) < 3 then (xs.length : Int) else 3) = (q1 : Int) ∧ q1 < gs.length := by
        have h1 : 0 ≤ z / 2 % (if (xs.length : Int) < 3 then (xs.length : Int) else 3) := Int.emod_nonneg _ (by split <;> omega)
        have h2 : z / 2 % (if (xs.length : Int) < 3 then (xs.length : Int) else 3) < (if (xs.length : Int) < 3 then (xs.length : Int) else 3) := Int.emod_lt_of_pos _ (by split <;> omega)
        have h3 : (if (xs.length : Int) < 3 then (xs.length : Int) else 3) ≤ (xs.length : Int) := by split <;> omega
        refine ⟨((xs.length : Int) - 1 - z / 2 % (if (xs.length : Int) < 3 then (xs.length : Int) else 3)).toNat, ?_, ?_⟩ <;> (generalize (if (xs.length : Int) < 3 then (xs.length : Int) else 3) = W3 at *; generalize z / 2 % W3 = Y3 at *; omega)
       walk_at "rd"
       refine ⟨(n6.own fol ob og gf6).wk (by omega), (by rw [zaak]; (try dsimp only); rw [hq1]; simp [nV] : _ = some (HO.lst (List.map nV (os ++ [q1])))), by simp; omega, bf5.snoc hq2⟩
     ·refine ⟨os, _, _, rfl, n5.wk (by omega), gf5, by omega, bf5⟩
    ·rintro σ H5 ⟨os, v2, v5, rfl, n5, gf5, lf5, bf5⟩
     walk_at "rd"
     rename_i R hR
     exact q R gl ol gs xs os _ ((n5.same (Ch.new hR _)).wk (by omega)) zaak (by omega) (zaa3 hR gf5) bf5.of (by omega) fg fol
end
end

section
def Eqv : Nat → Hp → V → V → Prop
 | 0, _, _, _ => False
 | n + 1, H, x, y => (∃ k : Key, x = kV k ∧ y = kV k) ∨ (∃ (p r : Addr) (xs ys : List V), x = .ref p ∧ y = .ref r ∧ H p = some (.tup xs) ∧ H r = some (.tup ys) ∧ Paired (Eqv n H) xs ys ∧ xs.length ≤ 300) ∨
  ∃ (p r : Addr) (xs ys : List V), x = .ref p ∧ y = .ref r ∧ H p = some (.lst xs) ∧ H r = some (.lst ys) ∧ Paired (Eqv n H) xs ys ∧ xs.length ≤ 300
theorem zad0 {α β : Type} {R S : α → β → Prop} (h : ∀ x y, R x y → S x y) : ∀ {xs : List α} {ys : List β}, Paired R xs ys → Paired S xs ys
 | _, _, .nil => .nil
 | _, _, .cons a t => .cons (h _ _ a) (zad0 h t)
theorem Eqv.ch {H H' : Hp} (c : Ch [] H H') : ∀ {n : Nat} {x y : V}, Eqv n H x y → Eqv n H' x y
 | 0, _, _, h => h
 | n + 1, x, y, h => by
  rcases h with h | ⟨p, r, xs, ys, e1, e2, g1, g2, pr, l⟩ | ⟨p, r, xs, ys, e1, e2, g1, g2, pr, l⟩
  ·exact .inl h
  ·exact .inr (.inl ⟨p, r, xs, ys, e1, e2, c.get g1 (by simp), c.get g2 (by simp), zad0 (fun _ _ => Eqv.ch c) pr, l⟩)
  ·exact .inr (.inr ⟨p, r, xs, ys, e1, e2, c.get g1 (by simp), c.get g2 (by simp), zad0 (fun _ _ => Eqv.ch c) pr, l⟩)
section
variable {P : Program} {w : World} {K : PySem.W.Frag} {mg : Str → Option Value} {base : Heap} {f : Addr} {fd : FuncData} {k : Nat}
theorem zad1 : bootBuiltins "dict" = some (.type "dict") := by decide +kernel
theorem zad2 : ("dict" : Str) ≠ "__name__" := by decide +kernel
theorem zad3 : Nd "dict" := by decide +kernel
theorem zaa1 : Nd "_law_same" := by decide +kernel
theorem av26 : AF (defScope (top 26)) ["_law_found", "_law_due"] := ⟨by decide +kernel⟩
theorem gl26 : AG (defScope (top 26)) ["isinstance", "dict", "len", "all", "tuple", "list", "zip", "str", "bool", "int"] := ⟨by decide +kernel⟩
def zafx : Scope := { kind := PySem.ScopeKind.function, names := [ (PySem.Str.ofString ".0", PySem.NameKind.local), (PySem.Str.ofString "_law_name", PySem.NameKind.local), (PySem.Str.ofString "_law_same", PySem.NameKind.globalImplicit), (PySem.Str.ofString "_law_due", PySem.NameKind.free), (PySem.Str.ofString "_law_found", PySem.NameKind.free)], isGenerator := false, isCoroutine := false, more := [] : PySem.Scope }
theorem zad4 : CompOk zafx (defScope (top 26)) (["_law_name"] : List Str) (["_law_found", "_law_due"] : List Str) [0, 1] (["_law_name", "_law_found", "_law_due"] : List Str) := compOk rfl (by decide +kernel) (by decide +kernel) (by decide +kernel) (by decide +kernel) rfl (by decide +kernel)
theorem zad5 : AK (relab zafx (defScope (top 26))) ["_law_name"] := ⟨by decide +kernel⟩
theorem zahg : AG (relab zafx (defScope (top 26))) ["_law_same"] := ⟨by decide +kernel⟩
theorem zabr : AV (relab zafx (defScope (top 26))) ["_law_name", "_law_found", "_law_due"] := ⟨by decide +kernel⟩
def zafy : Scope := { kind := PySem.ScopeKind.function, names := [ (PySem.Str.ofString ".0", PySem.NameKind.local), (PySem.Str.ofString "_law_one", PySem.NameKind.local), (PySem.Str.ofString "_law_other", PySem.NameKind.local), (PySem.Str.ofString "_law_same", PySem.NameKind.globalImplicit)], isGenerator := false, isCoroutine := false, more := [] : PySem.Scope }
theorem zac5 : CompOk zafy (defScope (top 26)) (["_law_one", "_law_other"] : List Str) (["_law_found", "_law_due"] : List Str) [] (["_law_one", "_law_other"] : List Str) := compOk rfl (by decide +kernel) (by decide +kernel) (by decide +kernel) (by decide +kernel) rfl (by decide +kernel)
theorem zacm : AK (relab zafy (defScope (top 26))) ["_law_one", "_law_other"] := ⟨by decide +kernel⟩
theorem zahh : AG (relab zafy (defScope (top 26))) ["_law_same"] := ⟨by decide +kernel⟩
theorem zad6 : AV (relab zafy (defScope (top 26))) ["_law_one", "_law_other"] := ⟨by decide +kernel⟩
structure EqvS (n : Nat) (H : Hp) (x y : V) : Prop where
 h : Eqv n H x y
def spSame (n : Nat) : Sp := fun vs H Q _ => ∃ (x y : V), vs = [x, y] ∧ EqvS n H x y ∧ ∀ H', Ch [] H H' → Q (.bl true) H'
theorem scSame : FnScope ["_law_found", "_law_due"] ["_law_found", "_law_due"] (defScope (top 26)) := ⟨rfl, rfl, rfl, by decide +kernel, rfl, by decide +kernel, by decide +kernel⟩
theorem zals (F : Fun K "_law_same" "_law_same" (top 26) f fd) : FnOk P w K mg base CX0 (k + 1) f fd ["_law_found", "_law_due"] (spSame 0) :=
 F.ok scSame (fun vs H Q E h => by obtain ⟨x, y, rfl, _⟩ := h; rfl) (fun cdv A outer s H vs Q E hr h => by obtain ⟨_, _, _, e, _⟩ := h; exact e.h.elim)
theorem zafz (n : Nat) (F : Fun K "_law_same" "_law_same" (top 26) f fd) (D_law_same : DefOk P w K mg base CX0 k "_law_same" ["_law_found", "_law_due"] (spSame n)) (z_isinstance : mg "isinstance" = none) (z_dict : mg "dict" = none) (z_list : mg "list" = none) (z_tuple : mg "tuple" = none) (z_str : mg "str" = none) (z_int : mg "int" = none) (z_bool : mg "bool" = none) (z_len : mg "len" = none) (z_all : mg "all" = none) (z_zip : mg "zip" = none) :
  FnOk P w K mg base CX0 (k + 1) f fd ["_law_found", "_law_due"] (spSame (n + 1)) := by
 have nd := scSame.nd
 refine F.ok scSame (fun vs H Q E h => by obtain ⟨x, y, rfl, _⟩ := h; rfl) (fun cdv A outer s H vs Q E hr h => ?_)
 obtain ⟨x, y, rfl, ⟨e⟩, q⟩ := h
 rcases e with ⟨kk, rfl, rfl⟩ | ⟨p, r, xs, ys, rfl, rfl, g1, g2, pr, l⟩ | ⟨p, r, xs, ys, rfl, rfl, g1, g2, pr, l⟩
 ·refine ⟨_, (Pr.h (zaaj (zaa2 (zaau zaei (qv av26 1 rfl) zab4 (nomark _)) (zaam (zaat (zabz zaei (qv av26 0 rfl) zab4 (nomark _)))) zaar) (zaaj (zaa2 (zaa7 (zaac zaaw (gl26.g 0 rfl) z_isinstance zaaf (zaaa (qv av26 1 rfl) (zaaa (zaav (v := .ty "dict") (gl26.g 1 rfl) z_dict zad1 rfl zad2 zad3) zaab)) zaag zaah)) (zaaj (zaa2 (zaca (zacj (zabq (zaa7 (zaac zaaw (gl26.g 0 rfl) z_isinstance zaaf (zaaa (qv av26 0 rfl) (zaaa (zaav (v := .ty "dict") (gl26.g 1 rfl) z_dict zad1 rfl zad2 zad3) zaab)) zaag zaah))) (zab1 (zaau zade (zaac zaal (gl26.g 2 rfl) z_len PySem.boot_len (zaaa (qv av26 0 rfl) zaab zaae) zaa5 zaa6) (zaac zaal (gl26.g 2 rfl) z_len PySem.boot_len (zaaa (qv av26 1 rfl) zaab zaae) zaa5 zaa6) (nomark _))))) (zaam (zaat zabt)) zaar) (zaam (zaat (zaac (zac0 rfl) (gl26.g 3 rfl) z_all zaev (zaaa (zacp rfl zad4 (zafl (qv av26 1 rfl)) (fun _ _ _ _ _ => (zaay (i := 0) zad4.nd rfl (Or.inl (zad5.k 0 rfl)) (Or.inr (zad5.k 0 rfl)))) (fun _ _ _ _ _ => zac1) (fun _ _ _ _ _ => (zab0 (zabz (zady K rfl) (qw zabr 0 rfl) (qw zabr 1 rfl) rfl) (zacl (zaap D_law_same hr (zahg.g 0 rfl) pass0 (zaaa (zaaz (zacx K rfl) (qw zabr 1 rfl) (qw zabr 0 rfl) (fun _ _ => rfl)) (zaaa (zaaz (zacx K rfl) (qw zabr 2 rfl) (qw zabr 0 rfl) (fun _ _ => rfl)) zaab zaaq) zaaq) zaa1))))) zaab zab3) zaew zaex)))) zaar) (zaaj (zaa2 (zaca (zacj (zaa7 (zaac zaaw (gl26.g 0 rfl) z_isinstance zaaf (zaaa (qv av26 1 rfl) (zaaa (zaav (v := .ty "list") (gl26.g 5 rfl) z_list zab7 rfl zab8 zab9) zaab)) zaag zaah)) (zab1 (zaa7 (zaac zaaw (gl26.g 0 rfl) z_isinstance zaaf (zaaa (qv av26 1 rfl) (zaaa (zaav (v := .ty "tuple") (gl26.g 4 rfl) z_tuple zabl rfl zabm zabn) zaab)) zaag zaah))))) (zaaj (zaa2 (zaau zade (zaac zaaw (gl26.g 0 rfl) z_isinstance zaaf (zaaa (qv av26 0 rfl) (zaaa (zaav (v := .ty "list") (gl26.g 5 rfl) z_list zab7 rfl zab8 zab9) zaab)) zaag zaah) (zaac zaaw (gl26.g 0 rfl) z_isinstance zaaf (zaaa (qv av26 1 rfl) (zaaa (zaav (v := .ty "list") (gl26.g 5 rfl) z_list zab7 rfl zab8 zab9) zaab)) zaag zaah) (nomark _)) (zaam (zaat zabt)) zaar) (zaaj (zaa2 (zaca (zacj (zaau zade (zaac zaaw (gl26.g 0 rfl) z_isinstance zaaf (zaaa (qv av26 0 rfl) (zaaa (zaav (v := .ty "tuple") (gl26.g 4 rfl) z_tuple zabl rfl zabm zabn) zaab)) zaag zaah) (zaac zaaw (gl26.g 0 rfl) z_isinstance zaaf (zaaa (qv av26 1 rfl) (zaaa (zaav (v := .ty "tuple") (gl26.g 4 rfl) z_tuple zabl rfl zabm zabn) zaab)) zaag zaah) (nomark _)) (zab1 (zaau zade (zaac zaal (gl26.g 2 rfl) z_len PySem.boot_len (zaaa (qv av26 0 rfl) zaab zaae) zaa5 zaa6) (zaac zaal (gl26.g 2 rfl) z_len PySem.boot_len (zaaa (qv av26 1 rfl) zaab zaae) zaa5 zaa6) (nomark _))))) (zaam (zaat zabt)) zaar) (zaam (zaat (zaac (zac0 rfl) (gl26.g 3 rfl) z_all zaev (zaaa (zacp rfl zac5 (zag1 .list .list (gl26.g 6 rfl) z_zip (zaaa (qv av26 0 rfl) (zaaa (qv av26 1 rfl) zaab zaae) zaae)) (fun _ _ _ _ _ => (zac2 K 2 rfl rfl (zaa8 (zaay (i := 0) zac5.nd rfl (Or.inl (zacm.k 0 rfl)) (Or.inr (zacm.k 0 rfl))) (zaa8 (zaay (i := 1) zac5.nd rfl (Or.inl (zacm.k 1 rfl)) (Or.inr (zacm.k 1 rfl))) zacf)))) (fun _ _ _ _ _ => zac1) (fun _ _ _ _ _ => (zaap D_law_same hr (zahh.g 0 rfl) pass0 (zaaa (qw zad6 0 rfl) (zaaa (qw zad6 1 rfl) zaab zaae) zaae) zaa1))) zaab zab3) zaew zaex))))) zaar) (zaaj (zaa2 (zaa7 (zaac zaaw (gl26.g 0 rfl) z_isinstance zaaf (zaaa (qv av26 1 rfl) (zaaa (zaav (v := .ty "str") (gl26.g 7 rfl) z_str zaes rfl zaet zaeu) zaab)) zaag zaah)) (zaam (zaat (zab0 (zaac zaaw (gl26.g 0 rfl) z_isinstance zaaf (zaaa (qv av26 0 rfl) (zaaa (zaav (v := .ty "str") (gl26.g 7 rfl) z_str zaes rfl zaet zaeu) zaab)) zaag zaah) (zacl (zabz zac8 (qv av26 0 rfl) (qv av26 1 rfl) (nomark _)))))) zaar) (zaam (zaat (zab0 (zaac zaaw (gl26.g 0 rfl) z_isinstance zaaf (zaaa (qv av26 0 rfl) (zaaa (zaav (v := .ty "int") (gl26.g 9 rfl) z_int zah3 rfl zah4 zah5) zaab)) zaag zaah) (zab0 (zafk (zaac zaaw (gl26.g 0 rfl) z_isinstance zaaf (zaaa (qv av26 0 rfl) (zaaa (zaav (v := .ty "bool") (gl26.g 8 rfl) z_bool zafr rfl zafs zaft) zaab)) zaag zaah)) (zacl (zabz zac8 (qv av26 0 rfl) (qv av26 1 rfl) (nomark _)))))))))))), ?_⟩
  (try dsimp only [cxOf])
  cases kk with
  | inl b =>
   dsimp only [kV]
   walk_at "rd"
   rw [decide_eq_true rfl]
   exact q _ (Ch.refl _ _)
  | inr b =>
   dsimp only [kV]
   walk_at "rd"
   rw [decide_eq_true rfl]
   exact q _ (Ch.refl _ _)
 ·have el := Paired.length pr
  refine ⟨_, (Pr.h (zaaj (zaa2 (zaau zaei (qv av26 1 rfl) zab4 (nomark _)) (zaam (zaat (zabz zaei (qv av26 0 rfl) zab4 (nomark _)))) zaar) (zaaj (zaa2 (zaa7 (zaac zaaw (gl26.g 0 rfl) z_isinstance zaaf (zaaa (qv av26 1 rfl) (zaaa (zaav (v := .ty "dict") (gl26.g 1 rfl) z_dict zad1 rfl zad2 zad3) zaab)) zaag zaah)) (zaaj (zaa2 (zaca (zacj (zabq (zaa7 (zaac zaaw (gl26.g 0 rfl) z_isinstance zaaf (zaaa (qv av26 0 rfl) (zaaa (zaav (v := .ty "dict") (gl26.g 1 rfl) z_dict zad1 rfl zad2 zad3) zaab)) zaag zaah))) (zab1 (zaau zade (zaac zaal (gl26.g 2 rfl) z_len PySem.boot_len (zaaa (qv av26 0 rfl) zaab zaae) zaa5 zaa6) (zaac zaal (gl26.g 2 rfl) z_len PySem.boot_len (zaaa (qv av26 1 rfl) zaab zaae) zaa5 zaa6) (nomark _))))) (zaam (zaat zabt)) zaar) (zaam (zaat (zaac (zac0 rfl) (gl26.g 3 rfl) z_all zaev (zaaa (zacp rfl zad4 (zag0 (qv av26 1 rfl)) (fun _ _ _ _ _ => (zaay (i := 0) zad4.nd rfl (Or.inl (zad5.k 0 rfl)) (Or.inr (zad5.k 0 rfl)))) (fun _ _ _ _ _ => zac1) (fun _ _ _ _ _ => (zab0 (zabz (zady K rfl) (qw zabr 0 rfl) (qw zabr 1 rfl) rfl) (zacl (zaap D_law_same hr (zahg.g 0 rfl) pass0 (zaaa (zaaz (zadb K rfl) (qw zabr 1 rfl) (qw zabr 0 rfl) (fun _ _ => rfl)) (zaaa (zaaz (zadb K rfl) (qw zabr 2 rfl) (qw zabr 0 rfl) (fun _ _ => rfl)) zaab zaaq) zaaq) zaa1))))) zaab zab3) zaew zaex)))) zaar) (zaaj (zaa2 (zaca (zacj (zaa7 (zaac zaaw (gl26.g 0 rfl) z_isinstance zaaf (zaaa (qv av26 1 rfl) (zaaa (zaav (v := .ty "list") (gl26.g 5 rfl) z_list zab7 rfl zab8 zab9) zaab)) zaag zaah)) (zab1 (zaa7 (zaac zaaw (gl26.g 0 rfl) z_isinstance zaaf (zaaa (qv av26 1 rfl) (zaaa (zaav (v := .ty "tuple") (gl26.g 4 rfl) z_tuple zabl rfl zabm zabn) zaab)) zaag zaah))))) (zaaj (zaa2 (zaau zade (zaac zaaw (gl26.g 0 rfl) z_isinstance zaaf (zaaa (qv av26 0 rfl) (zaaa (zaav (v := .ty "list") (gl26.g 5 rfl) z_list zab7 rfl zab8 zab9) zaab)) zaag zaah) (zaac zaaw (gl26.g 0 rfl) z_isinstance zaaf (zaaa (qv av26 1 rfl) (zaaa (zaav (v := .ty "list") (gl26.g 5 rfl) z_list zab7 rfl zab8 zab9) zaab)) zaag zaah) (nomark _)) (zaam (zaat zabt)) zaar) (zaaj (zaa2 (zaca (zacj (zaau zade (zaac zaaw (gl26.g 0 rfl) z_isinstance zaaf (zaaa (qv av26 0 rfl) (zaaa (zaav (v := .ty "tuple") (gl26.g 4 rfl) z_tuple zabl rfl zabm zabn) zaab)) zaag zaah) (zaac zaaw (gl26.g 0 rfl) z_isinstance zaaf (zaaa (qv av26 1 rfl) (zaaa (zaav (v := .ty "tuple") (gl26.g 4 rfl) z_tuple zabl rfl zabm zabn) zaab)) zaag zaah) (nomark _)) (zab1 (zaau zade (zaac zaal (gl26.g 2 rfl) z_len PySem.boot_len (zaaa (qv av26 0 rfl) zaab zaae) zaa5 zaa6) (zaac zaal (gl26.g 2 rfl) z_len PySem.boot_len (zaaa (qv av26 1 rfl) zaab zaae) zaa5 zaa6) (nomark _))))) (zaam (zaat zabt)) zaar) (zaam (zaat (zaac (zac0 rfl) (gl26.g 3 rfl) z_all zaev (zaaa (zacp rfl zac5 (zag1 .tuple .tuple (gl26.g 6 rfl) z_zip (zaaa (qv av26 0 rfl) (zaaa (qv av26 1 rfl) zaab zaae) zaae)) (fun _ _ _ _ _ => (zac2 K 2 rfl rfl (zaa8 (zaay (i := 0) zac5.nd rfl (Or.inl (zacm.k 0 rfl)) (Or.inr (zacm.k 0 rfl))) (zaa8 (zaay (i := 1) zac5.nd rfl (Or.inl (zacm.k 1 rfl)) (Or.inr (zacm.k 1 rfl))) zacf)))) (fun _ _ _ _ _ => zac1) (fun _ _ _ _ _ => (zaap D_law_same hr (zahh.g 0 rfl) pass0 (zaaa (qw zad6 0 rfl) (zaaa (qw zad6 1 rfl) zaab zaae) zaae) zaa1))) zaab zab3) zaew zaex))))) zaar) (zaaj (zaa2 (zaa7 (zaac zaaw (gl26.g 0 rfl) z_isinstance zaaf (zaaa (qv av26 1 rfl) (zaaa (zaav (v := .ty "str") (gl26.g 7 rfl) z_str zaes rfl zaet zaeu) zaab)) zaag zaah)) (zaam (zaat (zab0 (zaac zaaw (gl26.g 0 rfl) z_isinstance zaaf (zaaa (qv av26 0 rfl) (zaaa (zaav (v := .ty "str") (gl26.g 7 rfl) z_str zaes rfl zaet zaeu) zaab)) zaag zaah) (zacl (zabz (zal5 hr.units) (qv av26 0 rfl) (qv av26 1 rfl) (nomark _)))))) zaar) (zaam (zaat (zab0 (zaac zaaw (gl26.g 0 rfl) z_isinstance zaaf (zaaa (qv av26 0 rfl) (zaaa (zaav (v := .ty "int") (gl26.g 9 rfl) z_int zah3 rfl zah4 zah5) zaab)) zaag zaah) (zab0 (zafk (zaac zaaw (gl26.g 0 rfl) z_isinstance zaaf (zaaa (qv av26 0 rfl) (zaaa (zaav (v := .ty "bool") (gl26.g 8 rfl) z_bool zafr rfl zafs zaft) zaab)) zaag zaah)) (zacl (zabz (zal5 hr.units) (qv av26 0 rfl) (qv av26 1 rfl) (nomark _)))))))))))), ?_⟩
  (try dsimp only [cxOf])
  walk_at "rd"
  refine iteNn (by rw [el]) ?_
  walk_at "rd"
  refine zahz xs ys (fun j zs σ H' => Ch [] H H' ∧ zs = List.replicate j (V.bl true) ∧ ∃ u v, σ = [u, v]) (by rw [sizeLine_eq]; omega) el ⟨Ch.refl _ _, rfl, _, _, rfl⟩ ?_ ?_ ?_
  ·rintro j zs σ H' hj ⟨c, rfl, _⟩
   exact ⟨by simp, SqT.of (c.get g1 (by simp)), SqT.of (c.get g2 (by simp))⟩
  ·rintro j zs σ H' x z T hx hz ⟨c, rfl, u, v, rfl⟩ hT
   obtain ⟨j1, rfl⟩ := List.getElem?_eq_some_iff.mp hx
   obtain ⟨j2, rfl⟩ := List.getElem?_eq_some_iff.mp hz
   have ee : EqvS n (upd H' T (.tup [xs[j], ys[j]])) xs[j] ys[j] := ⟨Eqv.ch (c.trans (Ch.new hT _)) (zaeq pr j j1 j2)⟩
   walk_at "rd"
   exact ⟨by rw [← List.replicate_succ'], _, _, rfl⟩
  ·rintro zs σ H' ⟨c, rfl, _⟩
   intro D hD
   refine ⟨D, List.replicate xs.length true, rfl, by rw [zaak, List.map_replicate], ?_⟩
   rw [show (List.replicate xs.length true).all id = true from by simp [List.all_replicate]]
   exact q _ (c.trans (Ch.new hD _))
 ·have el := Paired.length pr
  refine ⟨_, (Pr.h (zaaj (zaa2 (zaau zaei (qv av26 1 rfl) zab4 (nomark _)) (zaam (zaat (zabz zaei (qv av26 0 rfl) zab4 (nomark _)))) zaar) (zaaj (zaa2 (zaa7 (zaac zaaw (gl26.g 0 rfl) z_isinstance zaaf (zaaa (qv av26 1 rfl) (zaaa (zaav (v := .ty "dict") (gl26.g 1 rfl) z_dict zad1 rfl zad2 zad3) zaab)) zaag zaah)) (zaaj (zaa2 (zaca (zacj (zabq (zaa7 (zaac zaaw (gl26.g 0 rfl) z_isinstance zaaf (zaaa (qv av26 0 rfl) (zaaa (zaav (v := .ty "dict") (gl26.g 1 rfl) z_dict zad1 rfl zad2 zad3) zaab)) zaag zaah))) (zab1 (zaau zade (zaac zaal (gl26.g 2 rfl) z_len PySem.boot_len (zaaa (qv av26 0 rfl) zaab zaae) zaa5 zaa6) (zaac zaal (gl26.g 2 rfl) z_len PySem.boot_len (zaaa (qv av26 1 rfl) zaab zaae) zaa5 zaa6) (nomark _))))) (zaam (zaat zabt)) zaar) (zaam (zaat (zaac (zac0 rfl) (gl26.g 3 rfl) z_all zaev (zaaa (zacp rfl zad4 (zafl (qv av26 1 rfl)) (fun _ _ _ _ _ => (zaay (i := 0) zad4.nd rfl (Or.inl (zad5.k 0 rfl)) (Or.inr (zad5.k 0 rfl)))) (fun _ _ _ _ _ => zac1) (fun _ _ _ _ _ => (zab0 (zabz (zady K rfl) (qw zabr 0 rfl) (qw zabr 1 rfl) rfl) (zacl (zaap D_law_same hr (zahg.g 0 rfl) pass0 (zaaa (zaaz (zacx K rfl) (qw zabr 1 rfl) (qw zabr 0 rfl) (fun _ _ => rfl)) (zaaa (zaaz (zacx K rfl) (qw zabr 2 rfl) (qw zabr 0 rfl) (fun _ _ => rfl)) zaab zaaq) zaaq) zaa1))))) zaab zab3) zaew zaex)))) zaar) (zaaj (zaa2 (zaca (zacj (zaa7 (zaac zaaw (gl26.g 0 rfl) z_isinstance zaaf (zaaa (qv av26 1 rfl) (zaaa (zaav (v := .ty "list") (gl26.g 5 rfl) z_list zab7 rfl zab8 zab9) zaab)) zaag zaah)) (zab1 (zaa7 (zaac zaaw (gl26.g 0 rfl) z_isinstance zaaf (zaaa (qv av26 1 rfl) (zaaa (zaav (v := .ty "tuple") (gl26.g 4 rfl) z_tuple zabl rfl zabm zabn) zaab)) zaag zaah))))) (zaaj (zaa2 (zaau zade (zaac zaaw (gl26.g 0 rfl) z_isinstance zaaf (zaaa (qv av26 0 rfl) (zaaa (zaav (v := .ty "list") (gl26.g 5 rfl) z_list zab7 rfl zab8 zab9) zaab)) zaag zaah) (zaac zaaw (gl26.g 0 rfl) z_isinstance zaaf (zaaa (qv av26 1 rfl) (zaaa (zaav (v := .ty "list") (gl26.g 5 rfl) z_list zab7 rfl zab8 zab9) zaab)) zaag zaah) (nomark _)) (zaam (zaat zabt)) zaar) (zaaj (zaa2 (zaca (zacj (zaau zade (zaac zaaw (gl26.g 0 rfl) z_isinstance zaaf (zaaa (qv av26 0 rfl) (zaaa (zaav (v := .ty "tuple") (gl26.g 4 rfl) z_tuple zabl rfl zabm zabn) zaab)) zaag zaah) (zaac zaaw (gl26.g 0 rfl) z_isinstance zaaf (zaaa (qv av26 1 rfl) (zaaa (zaav (v := .ty "tuple") (gl26.g 4 rfl) z_tuple zabl rfl zabm zabn) zaab)) zaag zaah) (nomark _)) (zab1 (zaau zade (zaac zaal (gl26.g 2 rfl) z_len PySem.boot_len (zaaa (qv av26 0 rfl) zaab zaae) zaa5 zaa6) (zaac zaal (gl26.g 2 rfl) z_len PySem.boot_len (zaaa (qv av26 1 rfl) zaab zaae) zaa5 zaa6) (nomark _))))) (zaam (zaat zabt)) zaar) (zaam (zaat (zaac (zac0 rfl) (gl26.g 3 rfl) z_all zaev (zaaa (zacp rfl zac5 (zag1 .list .list (gl26.g 6 rfl) z_zip (zaaa (qv av26 0 rfl) (zaaa (qv av26 1 rfl) zaab zaae) zaae)) (fun _ _ _ _ _ => (zac2 K 2 rfl rfl (zaa8 (zaay (i := 0) zac5.nd rfl (Or.inl (zacm.k 0 rfl)) (Or.inr (zacm.k 0 rfl))) (zaa8 (zaay (i := 1) zac5.nd rfl (Or.inl (zacm.k 1 rfl)) (Or.inr (zacm.k 1 rfl))) zacf)))) (fun _ _ _ _ _ => zac1) (fun _ _ _ _ _ => (zaap D_law_same hr (zahh.g 0 rfl) pass0 (zaaa (qw zad6 0 rfl) (zaaa (qw zad6 1 rfl) zaab zaae) zaae) zaa1))) zaab zab3) zaew zaex))))) zaar) (zaaj (zaa2 (zaa7 (zaac zaaw (gl26.g 0 rfl) z_isinstance zaaf (zaaa (qv av26 1 rfl) (zaaa (zaav (v := .ty "str") (gl26.g 7 rfl) z_str zaes rfl zaet zaeu) zaab)) zaag zaah)) (zaam (zaat (zab0 (zaac zaaw (gl26.g 0 rfl) z_isinstance zaaf (zaaa (qv av26 0 rfl) (zaaa (zaav (v := .ty "str") (gl26.g 7 rfl) z_str zaes rfl zaet zaeu) zaab)) zaag zaah) (zacl (zabz zac8 (qv av26 0 rfl) (qv av26 1 rfl) (nomark _)))))) zaar) (zaam (zaat (zab0 (zaac zaaw (gl26.g 0 rfl) z_isinstance zaaf (zaaa (qv av26 0 rfl) (zaaa (zaav (v := .ty "int") (gl26.g 9 rfl) z_int zah3 rfl zah4 zah5) zaab)) zaag zaah) (zab0 (zafk (zaac zaaw (gl26.g 0 rfl) z_isinstance zaaf (zaaa (qv av26 0 rfl) (zaaa (zaav (v := .ty "bool") (gl26.g 8 rfl) z_bool zafr rfl zafs zaft) zaab)) zaag zaah)) (zacl (zabz zac8 (qv av26 0 rfl) (qv av26 1 rfl) (nomark _)))))))))))), ?_⟩
  (try dsimp only [cxOf])
  walk_at "rd"
  refine iteNn (by rw [el]) ?_
  walk_at "rd"
  refine zahz xs ys (fun j zs σ H' => Ch [] H H' ∧ zs = List.replicate j (V.bl true) ∧ ∃ u v, σ = [u, v]) (by rw [sizeLine_eq]; omega) el ⟨Ch.refl _ _, rfl, _, _, rfl⟩ ?_ ?_ ?_
  ·rintro j zs σ H' hj ⟨c, rfl, _⟩
   exact ⟨by simp, SqL.of (c.get g1 (by simp)), SqL.of (c.get g2 (by simp))⟩
  ·rintro j zs σ H' x z T hx hz ⟨c, rfl, u, v, rfl⟩ hT
   obtain ⟨j1, rfl⟩ := List.getElem?_eq_some_iff.mp hx
   obtain ⟨j2, rfl⟩ := List.getElem?_eq_some_iff.mp hz
   have ee : EqvS n (upd H' T (.tup [xs[j], ys[j]])) xs[j] ys[j] := ⟨Eqv.ch (c.trans (Ch.new hT _)) (zaeq pr j j1 j2)⟩
   walk_at "rd"
   exact ⟨by rw [← List.replicate_succ'], _, _, rfl⟩
  ·rintro zs σ H' ⟨c, rfl, _⟩
   intro D hD
   refine ⟨D, List.replicate xs.length true, rfl, by rw [zaak, List.map_replicate], ?_⟩
   rw [show (List.replicate xs.length true).all id = true from by simp [List.all_replicate]]
   exact q _ (c.trans (Ch.new hD _))
end
end

section
theorem XDx.of {H' : Hp} {d : Addr} {fs : List (Str × V)} (h : H' d = some (.xd fs)) : XDx H' (some d) := fun d' e => by cases e; exact ⟨fs, h⟩
local macro_rules | `(tactic| walk_at "user") => `(tactic| first | (refine Or.inl (Exists.intro _ (And.intro rfl ?_)); with_reducible assumption) | (refine Or.inr (Exists.intro _ (And.intro rfl ?_)); with_reducible assumption) | (apply XDx.of; (focus walk_at "get")))
structure WN (K : PySem.W.Frag) (CR : Addr) (cs : List (Addr × Bool)) : Prop where
 xa : XA K CR
 ks : ∀ c b, (c, b) ∈ cs → PySem.W.kitOne K (.ref CR) (.ref c) = some b
 kv : PySem.W.kitOne K (.ref CR) (.type "ValueError") = some true
section
variable {P : Program} {w : World} {K : PySem.W.Frag} {mg : Str → Option Value} {base : Heap} {f : Addr} {fd : FuncData} {k : Nat}
theorem zalt : Nd "NoNet" := by decide +kernel
theorem zalu : Nd "NoRow" := by decide +kernel
theorem zait : Nd "NoSense" := by decide +kernel
theorem zakb : Nd "NoText" := by decide +kernel
theorem zaiu : Nd "NoFloor" := by decide +kernel
theorem zakc : Nd "NoPack" := by decide +kernel
theorem zahi : Nd "NoTables" := by decide +kernel
theorem zakd : Nd "NoBits" := by decide +kernel
theorem zake : Nd "NoWays" := by decide +kernel
theorem zakf : Nd "NoRoom" := by decide +kernel
theorem zaf0 : Nd "OutOfFloor" := by decide +kernel
theorem zaf1 : bootBuiltins "ValueError" = some (.type "ValueError") := by decide +kernel
theorem zaf2 : ("ValueError" : Str) ≠ "__name__" := by decide +kernel
theorem zaf3 : Nd "ValueError" := by decide +kernel
theorem av27 : AF (defScope (top 27)) ["_law_e", "_law_told", "_law_words", "_law_some"] := ⟨by decide +kernel⟩
theorem gl27 : AG (defScope (top 27)) ["isinstance", "NoNet", "NoRow", "NoSense", "NoText", "NoFloor", "NoPack", "NoTables", "NoBits", "NoWays", "NoRoom", "OutOfFloor", "range", "ValueError", "len"] := ⟨by decide +kernel⟩
def zahj : Scope := { kind := PySem.ScopeKind.function, names := [ (PySem.Str.ofString ".0", PySem.NameKind.local), (PySem.Str.ofString "_law_k", PySem.NameKind.local), (PySem.Str.ofString "_law_told", PySem.NameKind.free), (PySem.Str.ofString "_law_words", PySem.NameKind.free)], isGenerator := false, isCoroutine := false, more := [] : PySem.Scope }
theorem zakg : CompOk zahj (defScope (top 27)) (["_law_k"] : List Str) (["_law_e", "_law_told", "_law_words", "_law_some"] : List Str) [1, 2] (["_law_k", "_law_told", "_law_words"] : List Str) := compOk rfl (by decide +kernel) (by decide +kernel) (by decide +kernel) (by decide +kernel) rfl (by decide +kernel)
theorem zakh : AK (relab zahj (defScope (top 27))) ["_law_k"] := ⟨by decide +kernel⟩
theorem zaf4 : AV (relab zahj (defScope (top 27))) ["_law_k", "_law_told", "_law_words"] := ⟨by decide +kernel⟩
def spWord (C : Addr) (wd : Str) : Addr → Sp := fun ea vs H Q _ => ∃ d, vs = [.ref ea] ∧ H ea = some (exO ea C (some d)) ∧ (∃ fs, H d = some (.xd fs)) ∧ ∀ H', Ch [] H H' → Q (.str wd) H'
theorem scWord : FnScope ["_law_e", "_law_told", "_law_words", "_law_some"] ["_law_e"] (defScope (top 27)) := ⟨rfl, rfl, rfl, by decide +kernel, rfl, by decide +kernel, by decide +kernel⟩
theorem zann {CR c0 c1 c3 c4 c5 c6 c7 c8 c9 c10 : Addr} (F : Fun K "_law_word" "_law_word" (top 27) f fd) (wk : WN K CR [(c0, false), (c1, false), (c3, false), (CR, true), (c4, false), (c5, false), (c6, false), (c7, false), (c8, false), (c9, false), (c10, false)])
  (m_NoText : mg "NoText" = some (.ref c0)) (m_NoSense : mg "NoSense" = some (.ref c1)) (m_NoRow : mg "NoRow" = some (.ref c3)) (m_NoNet : mg "NoNet" = some (.ref CR)) (m_NoTables : mg "NoTables" = some (.ref c4)) (m_NoPack : mg "NoPack" = some (.ref c5)) (m_NoFloor : mg "NoFloor" = some (.ref c6))
  (m_OutOfFloor : mg "OutOfFloor" = some (.ref c7)) (m_NoRoom : mg "NoRoom" = some (.ref c8)) (m_NoWays : mg "NoWays" = some (.ref c9)) (m_NoBits : mg "NoBits" = some (.ref c10)) (z_isinstance : mg "isinstance" = none) (z_ValueError : mg "ValueError" = none) (z_range : mg "range" = none) (z_len : mg "len" = none) :
  FnOkH P w K mg base (k + 1) f fd ["_law_e"] (spWord CR "net") := by
 have nd := scWord.nd
 refine F.okH scWord (fun ea vs H Q E h => by obtain ⟨d, rfl, _⟩ := h; rfl) (fun ea cdv A outer s H vs Q hr h => ?_)
 obtain ⟨d, rfl, hx, ⟨fs, hd⟩, q⟩ := h
 refine ⟨_, (Pr.h (zaaj (zaa0 (i := 1) nd rfl (av27.l 1 rfl) (zabd (zaaa (zaac zab2 (gl27.g 0 rfl) z_isinstance zaaf (zaaa (qv av27 0 rfl) (zaaa (zaby (v := .ref _) (gl27.g 4 rfl) m_NoText rfl zakb) zaab)) zaag zaah) (zaaa (zaac zab2 (gl27.g 0 rfl) z_isinstance zaaf (zaaa (qv av27 0 rfl) (zaaa (zaby (v := .ref _) (gl27.g 3 rfl) m_NoSense rfl zait) zaab)) zaag zaah) (zaaa (zaac zab2 (gl27.g 0 rfl) z_isinstance zaaf (zaaa (qv av27 0 rfl) (zaaa (zaby (v := .ref _) (gl27.g 2 rfl) m_NoRow rfl zalu) zaab)) zaag zaah) (zaaa (zaac zab2 (gl27.g 0 rfl) z_isinstance zaaf (zaaa (qv av27 0 rfl) (zaaa (zaby (v := .ref _) (gl27.g 1 rfl) m_NoNet rfl zalt) zaab)) zaag zaah) zaab zaa4) zaa4) zaa4) zaa4))) (zaaj (zaa0 (i := 1) nd rfl (av27.l 1 rfl) (zaao zac7 (qv av27 1 rfl) (zabd (zaaa (zaac zab2 (gl27.g 0 rfl) z_isinstance zaaf (zaaa (qv av27 0 rfl) (zaaa (zaby (v := .ref _) (gl27.g 7 rfl) m_NoTables rfl zahi) zaab)) zaag zaah) (zaaa (zaac zab2 (gl27.g 0 rfl) z_isinstance zaaf (zaaa (qv av27 0 rfl) (zaaa (zaby (v := .ref _) (gl27.g 6 rfl) m_NoPack rfl zakc) zaab)) zaag zaah) (zaaa (zaac zab2 (gl27.g 0 rfl) z_isinstance zaaf (zaaa (qv av27 0 rfl) (zaaa (zaby (v := .ref _) (gl27.g 5 rfl) m_NoFloor rfl zaiu) zaab)) zaag zaah) zaab zaa4) zaa4) zaa4)))) (zaaj (zaa0 (i := 1) nd rfl (av27.l 1 rfl) (zaao zac7 (qv av27 1 rfl) (zabd (zaaa (zaac zab2 (gl27.g 0 rfl) z_isinstance zaaf (zaaa (qv av27 0 rfl) (zaaa (zaby (v := .ref _) (gl27.g 11 rfl) m_OutOfFloor rfl zaf0) zaab)) zaag zaah) (zaaa (zaac zab2 (gl27.g 0 rfl) z_isinstance zaaf (zaaa (qv av27 0 rfl) (zaaa (zaby (v := .ref _) (gl27.g 10 rfl) m_NoRoom rfl zakf) zaab)) zaag zaah) (zaaa (zaac zab2 (gl27.g 0 rfl) z_isinstance zaaf (zaaa (qv av27 0 rfl) (zaaa (zaby (v := .ref _) (gl27.g 9 rfl) m_NoWays rfl zake) zaab)) zaag zaah) (zaaa (zaac zab2 (gl27.g 0 rfl) z_isinstance zaaf (zaaa (qv av27 0 rfl) (zaaa (zaby (v := .ref _) (gl27.g 8 rfl) m_NoBits rfl zakd) zaab)) zaag zaah) zaab zaa4) zaa4) zaa4) zaa4)))) (zaaj (zaa0 (i := 2) nd rfl (av27.l 2 rfl) (zabd (zaaa zaas (zaaa zaas (zaaa zaas (zaaa zaas (zaaa zaas (zaaa zaas (zaaa zaas (zaaa zaas (zaaa zaas (zaaa zaas (zaaa zaas zaab zaai) zaai) zaai) zaai) zaai) zaai) zaai) zaai) zaai) zaai) zaai))) (zaaj (zajy (i := 3) nd rfl (av27.l 3 rfl) (fun _ _ _ _ _ => hr.hd) zakg (zaip (gl27.g 12 rfl) z_range (zaaa zaad zaab zaai)) (fun _ _ _ _ _ => (zaay (i := 0) zakg.nd rfl (Or.inl (zakh.k 0 rfl)) (Or.inr (zakh.k 0 rfl)))) (fun _ _ _ _ _ => (zadn (zaa7 (zaaz (zacx K rfl) (qw zaf4 1 rfl) (qw zaf4 0 rfl) (fun _ _ => rfl))))) (fun _ _ _ _ _ => (zaaz (zacx K rfl) (qw zaf4 2 rfl) (qw zaf4 0 rfl) (fun _ _ => rfl))) rfl) (zaaj (zaa2 (zaca (zacj (zaau zade (zaac zaal (gl27.g 14 rfl) z_len PySem.boot_len (zaaa (qv av27 3 rfl) zaab zaae) zaa5 zaa6) zaad (nomark _)) (zab1 (zabq (zaa7 (zaac zab2 (gl27.g 0 rfl) z_isinstance zaaf (zaaa (qv av27 0 rfl) (zaaa (zaav (v := .ty "ValueError") (gl27.g 13 rfl) z_ValueError zaf1 rfl zaf2 zaf3) zaab)) zaag zaah)))))) (zaam (zaat zaas)) zaar) (zaam (zaat (zaaz zaba (qv av27 3 rfl) zaad (fun _ _ => rfl))))))))))), ?_⟩
 (try dsimp only [cxH, cxOf])
 have xa := wk.xa
 have kv := wk.kv
 have k0 := wk.ks c0 false (by simp)
 have k1 := wk.ks c1 false (by simp)
 have k2 := wk.ks CR true (by simp)
 have k3 := wk.ks c3 false (by simp)
 have k4 := wk.ks c4 false (by simp)
 have k5 := wk.ks c5 false (by simp)
 have k6 := wk.ks c6 false (by simp)
 have k7 := wk.ks c7 false (by simp)
 have k8 := wk.ks c8 false (by simp)
 have k9 := wk.ks c9 false (by simp)
 have k10 := wk.ks c10 false (by simp)
 walk_at "rd"
 rename_i p5 h5 p4 h4 p3 h3 p2 h2 p1 h1 p0 h0
 obtain ⟨H9, e9⟩ : ∃ H9, upd (upd (upd (upd (upd (upd H p5 (HO.lst [V.bl false, V.bl false, V.bl false, V.bl true])) p4 (HO.lst [V.bl false, V.bl false, V.bl false])) p3 (HO.lst ([V.bl false, V.bl false, V.bl false, V.bl true] ++ [V.bl false, V.bl false, V.bl false]))) p2 (HO.lst [V.bl false, V.bl false, V.bl false, V.bl false])) p1
   (HO.lst ([V.bl false, V.bl false, V.bl false, V.bl true] ++ [V.bl false, V.bl false, V.bl false] ++ [V.bl false, V.bl false, V.bl false, V.bl false]))) p0 (HO.lst [V.str (Str.ofString "text"), V.str (Str.ofString "sense"), V.str (Str.ofString "row"), V.str (Str.ofString "net"), V.str (Str.ofString "tables"), V.str (Str.ofString "pack"), V.str (Str.ofString "floor"), V.str (Str.ofString "out"), V.str (Str.ofString "room"), V.str (Str.ofString "ways"), V.str (Str.ofString "bits")]) = H9 := ⟨_, rfl⟩
 have c9 : Ch [] H H9 := by rw [← e9]; exact (((((Ch.new h5 _).trans (Ch.new h4 _)).trans (Ch.new h3 _)).trans (Ch.new h2 _)).trans (Ch.new h1 _)).trans (Ch.new h0 _)
 have t9 : H9 p1 = some (.lst [.bl false, .bl false, .bl false, .bl true, .bl false, .bl false, .bl false, .bl false, .bl false, .bl false, .bl false]) := by rw [← e9]; exact zaa3 h0 zaak
 have w9 : H9 p0 = some (.lst [.str "text", .str "sense", .str "row", .str "net", .str "tables", .str "pack", .str "floor", .str "out", .str "room", .str "ways", .str "bits"]) := by rw [← e9]; exact zaak
 have x9 : H9 ea = some (exO ea CR (some d)) := c9.get hx (by simp)
 rw [e9]
 clear e9 h0 h1 h2 h3 h4 h5
 refine zag9 (fun i ys σ H' => H' = H9 ∧ ys = (if i ≤ 3 then [] else [V.str "net"]) ∧ ∃ u, σ = [u, some (.ref p1), some (.ref p0)]) (by rw [sizeLine_eq]; decide) ⟨rfl, rfl, _, rfl⟩ ?_ ?_ ?_ ?_
 ·rintro i ys σ H' hi ⟨_, rfl, _⟩
  split
  ·exact Nat.zero_le _
  ·show 1 ≤ i; omega
 ·rintro ys σ H' ⟨rfl, _⟩
  exact ⟨CR, _, x9⟩
 ·rintro i ys σ H' hi ⟨rfl, rfl, u, rfl⟩
  have hi : i < 11 := hi
  have : i = 0 ∨ i = 1 ∨ i = 2 ∨ i = 3 ∨ i = 4 ∨ i = 5 ∨ i = 6 ∨ i = 7 ∨ i = 8 ∨ i = 9 ∨ i = 10 := by omega
  rcases this with rfl | rfl | rfl | rfl | rfl | rfl | rfl | rfl | rfl | rfl | rfl <;> walk_at "rd"
 ·rintro ys σ H' ⟨rfl, rfl, u, rfl⟩
  walk_at "rd"
  rename_i pz hz
  exact q _ (c9.trans (Ch.new hz _))
end
end

section
structure OddAt (H : Hp) (i n : Int) (v : V) : Prop where
 ex : ∃ g, GvAt H v g ∧ gvB i n g = false
theorem OddAt.ch {H H' : Hp} (c : Ch [] H H') {i n : Int} {v : V} (h : OddAt H i n v) : OddAt H' i n v := let ⟨g, a, b⟩ := h.ex; ⟨⟨g, a.ch c, b⟩⟩
theorem OddAt.th {H : Hp} {i n : Int} {v : V} (h : Th v) : OddAt H i n v := ⟨⟨.oth, .inl h, rfl⟩⟩
theorem OddAt.ls {H : Hp} {i n : Int} {p : Addr} {ys : List V} (h : H p = some (.lst ys)) : OddAt H i n (.ref p) := ⟨⟨.oth, .inr ⟨p, ys, rfl, h⟩, rfl⟩⟩
theorem OddAt.tu {H : Hp} {i n : Int} {p : Addr} {xs : List V} (h : H p = some (.tup xs)) (t : ∀ x ∈ xs, Th x) (l : xs.length ≤ 10) (b : gateB xs i n = false) : OddAt H i n (.ref p) := ⟨⟨.tup xs, ⟨p, rfl, h, t, l⟩, b⟩⟩
theorem zads {w : Str} {r : List V} {x : V} (a n : Int) (hk : ¬ w = Str.ofString "keep") (hx : x ∈ r) (b : belB x a = false) : gateB (.str w :: r) a n = false := by
 cases e : List.lookup w FC with
 | none => exact zadq a n hk e
 | some c =>
  rw [zabv a n hk e]
  have : r.all (fun x => belB x a) = false := by
   rw [← Bool.not_eq_true]
   intro z
   rw [List.all_eq_true.mp z x hx] at b
   cases b
  rw [this, Bool.and_false]
theorem zah7 {w : Str} {r : List V} {c : Int} (a n : Int) (hk : ¬ w = Str.ofString "keep") (e : List.lookup w FC = some c) (h : (r.length : Int) ≠ c) : gateB (.str w :: r) a n = false := by
 rw [zabv a n hk e, decide_eq_false h, Bool.false_and]
theorem Gt.parts (g : Gt) : (∃ f a, g = .keep f a) ∨ ∃ (w : Str) (r : List V) (c : Int), g.vs = .str w :: r ∧ (¬ w = Str.ofString "keep") ∧ List.lookup w FC = some c ∧ (r.length : Int) = c ∧ (∀ x ∈ r, Th x) ∧ r.length ≤ 3 := by
 cases g with
 | keep f a => exact .inl ⟨f, a, rfl⟩
 | inp => exact .inr ⟨"in", [], 0, rfl, by decide +kernel, by decide +kernel, rfl, by simp, by decide⟩
 | zero => exact .inr ⟨"zero", [], 0, rfl, by decide +kernel, by decide +kernel, rfl, by simp, by decide⟩
 | one => exact .inr ⟨"one", [], 0, rfl, by decide +kernel, by decide +kernel, rfl, by simp, by decide⟩
 | not a => exact .inr ⟨"not", [.int a], 1, rfl, by decide +kernel, by decide +kernel, rfl, fun x hx => by simp at hx; subst hx; exact .int _, by simp⟩
 | and a b => exact .inr ⟨"and", [.int a, .int b], 2, rfl, by decide +kernel, by decide +kernel, rfl, fun x hx => by simp at hx; rcases hx with rfl | rfl <;> exact .int _, by simp⟩
 | or a b => exact .inr ⟨"or", [.int a, .int b], 2, rfl, by decide +kernel, by decide +kernel, rfl, fun x hx => by simp at hx; rcases hx with rfl | rfl <;> exact .int _, by simp⟩
 | xor a b => exact .inr ⟨"xor", [.int a, .int b], 2, rfl, by decide +kernel, by decide +kernel, rfl, fun x hx => by simp at hx; rcases hx with rfl | rfl <;> exact .int _, by simp⟩
 | pick a b c => exact .inr ⟨"pick", [.int a, .int b, .int c], 3, rfl, by decide +kernel, by decide +kernel, rfl, fun x hx => by simp at hx; rcases hx with rfl | rfl | rfl <;> exact .int _, by simp⟩
theorem Gt.odd0 (g : Gt) (a n : Int) : ∃ (w : Str) (r : List V), g.vs = .str w :: r ∧ (∀ x ∈ V.str w :: r, Th x) ∧ r.length ≤ 3 ∧ gateB (V.str w :: r ++ [.int 0]) a n = false := by
 rcases g.parts with ⟨ff, b, rfl⟩ | ⟨wd, r, c, ev, hk, hc, hl, ht, l3⟩
 ·exact ⟨"keep", [.int ff, .int b], rfl, fun x hx => by simp at hx; rcases hx with rfl | rfl | rfl; exact .str _; exact .int _; exact .int _, by simp, zadz a n (by simp)⟩
 ·exact ⟨wd, r, ev, fun x hx => by
   rcases List.mem_cons.mp hx with rfl | z
   ·exact .str _
   ·exact ht x z, l3, zah7 a n hk hc (by show ((r ++ [V.int 0]).length : Int) ≠ c; rw [List.length_append]; show ((r.length + 1 : Nat) : Int) ≠ c; omega)⟩
structure OS (H H' : Hp) (i n : Int) (B : Nat) (ol : Addr) (L : List V) : Prop where
 ch : Ch [] H H'
 g : H' ol = some (.lst L)
 a : ∀ v ∈ L, OddAt H' i n v
 l1 : 1 ≤ L.length
 l2 : L.length ≤ B
theorem OS.add {H H' H2 : Hp} {i n : Int} {B B' : Nat} {ol o2 : Addr} {L L2 : List V} (h : OS H H' i n B ol L) (c : Ch [] H' H2) (g : H2 o2 = some (.lst (L ++ L2))) (a : ∀ v ∈ L2, OddAt H2 i n v) (l : B + L2.length ≤ B') : OS H H2 i n B' o2 (L ++ L2) :=
 ⟨h.ch.trans c, g, fun v hv => (List.mem_append.mp hv).elim (fun z => (h.a v z).ch c) (a v), by rw [List.length_append]; have := h.l1; omega, by rw [List.length_append]; have := h.l2; omega⟩
theorem OS.up {H H' : Hp} {i n : Int} {B B' : Nat} {ol : Addr} {L : List V} (h : OS H H' i n B ol L) (l : B ≤ B') : OS H H' i n B' ol L := ⟨h.ch, h.g, h.a, h.l1, Nat.le_trans h.l2 l⟩
def OSt (H : Hp) (m i n : Int) (p : Addr) (B : Nat) (σ : St) (H' : Hp) : Prop := ∃ ol L, σ = [some (.int m), some (.ref p), some (.int i), some (.int n), some (.ref ol)] ∧ OS H H' i n B ol L
theorem zap5 : belB (.int 2) 2 = false := by decide
theorem zap6 (b : Int) : belB (.int (-1)) b = false := rfl
theorem zano (b : Int) : belB (.int b) b = false := by show (decide (0 ≤ b) && decide (b < b)) = false; rw [decide_eq_false (Int.lt_irrefl b), Bool.and_false]
theorem zap7 (b : Int) : belB (.int (b + 1)) b = false := by show (decide (0 ≤ b + 1) && decide (b + 1 < b)) = false; rw [decide_eq_false (show ¬ b + 1 < b by omega), Bool.and_false]
theorem cut2 (x y : V) (ys : List V) : cutV (x :: y :: ys) (some 2) none = ys := by
 unfold cutV
 have e : HT.sIx (x :: y :: ys).length 0 (some 2) = 2 := by
  show (if (2 : Int) < 0 then ((2 : Int) + ((x :: y :: ys).length : Int)).toNat else min (2 : Int).toNat (x :: y :: ys).length) = 2
  rw [if_neg (by decide)]
  show min 2 (ys.length + 1 + 1) = 2
  omega
 rw [e, show HT.sIx (x :: y :: ys).length (x :: y :: ys).length none = (x :: y :: ys).length from rfl]
 show ys.take (ys.length + 1 + 1 - 2) = ys
 rw [List.take_of_length_le (by omega)]
theorem zalv (x y : V) (ys : List V) : cutV (x :: y :: ys) none (some (((x :: y :: ys).length : Int) - 1)) = x :: (y :: ys).dropLast := by
 unfold cutV
 have e : HT.sIx (x :: y :: ys).length (x :: y :: ys).length (some (((x :: y :: ys).length : Int) - 1)) = ys.length + 1 := by
  show (if (((x :: y :: ys).length : Int) - 1) < 0 then ((((x :: y :: ys).length : Int) - 1) + ((x :: y :: ys).length : Int)).toNat else min (((x :: y :: ys).length : Int) - 1).toNat (x :: y :: ys).length) = _
  rw [List.length_cons, List.length_cons, if_neg (by omega)]
  omega
 rw [e, show HT.sIx (x :: y :: ys).length 0 none = 0 from rfl, List.drop_zero, Nat.sub_zero, List.take_succ_cons]
 rw [List.dropLast_eq_take]
 rfl
theorem zah8 {w : Str} {y x : V} {r : List V} (ty : Th y) (ht : ∀ z ∈ x :: r, Th z) : ∀ z ∈ [V.str w] ++ [y] ++ r, Th z := fun z hz => by
 rcases List.mem_append.mp hz with h | h
 ·simp at h
  rcases h with rfl | rfl
  ·exact .str _
  ·exact ty
 ·exact ht z (List.mem_cons_of_mem _ h)
theorem zaf5 {w : Str} {y x : V} {r : List V} (l : (x :: r).length ≤ 3) : ([V.str w] ++ [y] ++ r).length ≤ 10 := by
 rw [List.length_cons] at l
 rw [List.length_append]
 show 2 + r.length ≤ 10
 omega
section
variable {P : Program} {w : World} {K : PySem.W.Frag} {mg : Str → Option Value} {base : Heap} {f : Addr} {fd : FuncData} {k : Nat}
theorem av28 : AF (defScope (top 28)) ["_law_m", "_law_gate", "_law_number", "_law_many", "_law_odd_here"] := ⟨by decide +kernel⟩
theorem gl28 : AG (defScope (top 28)) ["list", "len"] := ⟨by decide +kernel⟩
def spOdd : Sp := fun vs H Q _ => ∃ (m i n : Int) (p : Addr) (g : Gt), vs = [.int m, .ref p, .int i, .int n] ∧ H p = some (.tup g.vs) ∧ 0 ≤ i ∧ 0 ≤ n ∧ ∀ (v : V) (H' : Hp), Ch [] H H' → OddAt H' i n v → Q v H'
theorem scOdd : FnScope ["_law_m", "_law_gate", "_law_number", "_law_many", "_law_odd_here"] ["_law_m", "_law_gate", "_law_number", "_law_many"] (defScope (top 28)) := ⟨rfl, rfl, rfl, by decide +kernel, rfl, by decide +kernel, by decide +kernel⟩
theorem zapj (F : Fun K "_law_odd" "_law_odd" (top 28) f fd) (z_len : mg "len" = none) (z_list : mg "list" = none) : FnOk P w K mg base CX0 (k + 1) f fd ["_law_m", "_law_gate", "_law_number", "_law_many"] spOdd := by
 have nd := scOdd.nd
 refine F.ok scOdd (fun vs H Q E h => by obtain ⟨m, i, n, p, g, rfl, _⟩ := h; rfl) (fun cdv A outer s H vs Q E hr h => ?_)
 obtain ⟨m, i, n, p, g, rfl, hp, i0, n0, q⟩ := h
 refine ⟨_, (Pr.h (zab6 (zaa0 (i := 4) nd rfl (av28.l 4 rfl) (zabd (zaaa (zabd zaab) (zaaa zab4 (zaaa (zaa9 zaab) (zaaa zaas (zaaa (zabo zacg (gl28.g 0 rfl) z_list zab7 (zaaa (qv av28 1 rfl) zaab zaae) zab8 zab9) (zaaa (zaa9 (zaaa zaas (zaaa zaad (zaaa zaad zaab zaai) zaai) zaai)) (zaaa (zaao zacu (qv av28 1 rfl) (zaa9 (zaaa zaad zaab zaai))) (zaaa (zaa9 (zaaa zaas zaab zaai)) (zaaa (zaa9 (zaaa zaad zaab zaai)) (zaaa zaad zaab zaai) zabg) zabg) zabb) zabg) zaa4) zaai) zabg) zaai) zam4))) (zab6 (zaa2 (zaau zac8 (zaaz zabf (qv av28 1 rfl) zaad (fun _ _ => rfl)) zaas (nomark _)) (zab6 (zaa0 (i := 4) nd rfl (av28.l 4 rfl) (zaao zac7 (qv av28 4 rfl) (zabd (zaaa (zaa9 (zaaa zaas (zaaa zaad (zaaa (zaaz zabf (qv av28 1 rfl) zaad (fun _ _ => rfl)) zaab zaaq) zaai) zaai)) (zaaa (zaa9 (zaaa zaas (zaaa (zadl zadi zaad) (zaaa (zaaz zabf (qv av28 1 rfl) zaad (fun _ _ => rfl)) zaab zaaq) zabx) zaai)) (zaaa (zaa9 (zaaa zaas (zaaa (zaaz zabf (qv av28 1 rfl) zaad (fun _ _ => rfl)) (zaaa (qv av28 3 rfl) zaab zaae) zaaq) zaai)) (zaaa (zaa9 (zaaa zaas (zaaa (zaaz zabf (qv av28 1 rfl) zaad (fun _ _ => rfl)) (zaaa (zadl zadi zaad) zaab zabx) zaaq) zaai)) zaab zabg) zabg) zabg) zabg)))) (zaam (zaa0 (i := 4) nd rfl (av28.l 4 rfl) (zaao zac7 (qv av28 4 rfl) (zabd (zaaa (zaa9 (zaaa zaas (zaaa zabt (zaaa (zaaz zabf (qv av28 1 rfl) zaad (fun _ _ => rfl)) zaab zaaq) zaai) zaai)) (zaaa (zaa9 (zaaa zaas (zaaa (zaaz zabf (qv av28 1 rfl) zaad (fun _ _ => rfl)) zaab zaaq) zaai)) (zaaa (zaa9 (zaaa zaas (zaaa zab4 (zaaa (zaaz zabf (qv av28 1 rfl) zaad (fun _ _ => rfl)) zaab zaaq) zaai) zaai)) zaab zabg) zabg) zabg)))))) (zaam (zaa2 (zaau zaid (zaac zaal (gl28.g 1 rfl) z_len PySem.boot_len (zaaa (qv av28 1 rfl) zaab zaae) zaa5 zaa6) zaad (nomark _)) (zab6 (zaa0 (i := 4) nd rfl (av28.l 4 rfl) (zaao zac7 (qv av28 4 rfl) (zabd (zaaa (zaao zacu (zaao zacu (zabc zacv (qv av28 1 rfl) zabh (zabi zaad)) (zaa9 (zaaa (qv av28 2 rfl) zaab zaae))) (zabc zacv (qv av28 1 rfl) (zabi zaad) zabh)) (zaaa (zaao zacu (zabc zacv (qv av28 1 rfl) zabh (zabi (zaao zaeh (zaac zaal (gl28.g 1 rfl) z_len PySem.boot_len (zaaa (qv av28 1 rfl) zaab zaae) zaa5 zaa6) zaad))) (zaa9 (zaaa (zaao zacw (qv av28 2 rfl) zaad) zaab zabb))) (zaaa (zabc zacv (qv av28 1 rfl) zabh (zabi (zaao zaeh (zaac zaal (gl28.g 1 rfl) z_len PySem.boot_len (zaaa (qv av28 1 rfl) zaab zaae) zaa5 zaa6) zaad))) zaab zaaq) zabb) zabb)))) (zaam (zaa0 (i := 4) nd rfl (av28.l 4 rfl) (zaao zac7 (qv av28 4 rfl) (zabd (zaaa (zaao zacu (zaao zacu (zabc zacv (qv av28 1 rfl) zabh (zabi zaad)) (zaa9 (zaaa (zadl zadi zaad) zaab zabx))) (zabc zacv (qv av28 1 rfl) (zabi zaad) zabh)) (zaaa (zaao zacu (zaao zacu (zabc zacv (qv av28 1 rfl) zabh (zabi zaad)) (zaa9 (zaaa zabt zaab zaai))) (zabc zacv (qv av28 1 rfl) (zabi zaad) zabh)) (zaaa (zaao zacu (zaao zacu (zabc zacv (qv av28 1 rfl) zabh (zabi zaad)) (zaa9 (zaaa zab4 zaab zaai))) (zabc zacv (qv av28 1 rfl) (zabi zaad) zabh)) zaab zabb) zabb) zabb)))))) zaar))) (zaam (zaat (zaaz zaba (qv av28 4 rfl) (zaao zabk (qv av28 0 rfl) (zaac zaal (gl28.g 1 rfl) z_len PySem.boot_len (zaaa (qv av28 4 rfl) zaab zaae) zaa5 zaa6)) (fun _ _ => rfl))))))), ?_⟩
 (try dsimp only [cxOf])
 obtain ⟨wd, r, ev, ht, l3, b0⟩ := g.odd0 i n
 have hp0 : Box (H p = some (.tup g.vs)) := ⟨hp⟩
 rw [ev] at hp
 walk_at "rd"
 refine zac9 (OSt H m i n p 10) ?_ ?_
 ·walk_at "rd"
  rename_i p1 h1 p2 h2 p3 h3 p4 h4 p5 h5
  refine ⟨by simp, by rw [sizeLine_eq, List.length_cons]; show r.length + 1 + 1 ≤ _; omega, fun t H6 c6 g6 => ?_⟩
  have c05 := (Ch.new (W := []) h1 (.lst [])).trans ((Ch.new h2 (.tup [])).trans ((Ch.new h3 (.lst (V.str wd :: r))).trans ((Ch.new h4 (.tup [V.str "nand", V.int 0, V.int 0])).trans (Ch.new h5 (.tup [V.int 0])))))
  have o1 : OddAt H6 i n (.ref p1) := .ls (c6.get (zaa3 h5 (zaa3 h4 (zaa3 h3 (zaa3 h2 zaak)))) (by simp))
  have o2 : OddAt H6 i n (.ref p2) := .tu (c6.get (zaa3 h5 (zaa3 h4 (zaa3 h3 zaak))) (by simp)) (by simp) (by simp) rfl
  have o3 : OddAt H6 i n (.ref p3) := .ls (c6.get (zaa3 h5 (zaa3 h4 zaak)) (by simp))
  have o4 : OddAt H6 i n (.ref p4) := .tu (c6.get (zaa3 h5 zaak) (by simp)) (fun x hx => by simp at hx; rcases hx with rfl | rfl <;> first | exact .str _ | exact .int _) (by simp) (zadq i n (by decide +kernel) (by decide +kernel))
  have o5 : OddAt H6 i n (.ref t) := .tu g6 (fun x hx => by
   rcases List.mem_append.mp hx with z | z
   ·exact ht x z
   ·rw [List.mem_singleton.mp z]; exact .int _) (by rw [List.length_append, List.length_cons]; show r.length + 1 + 1 ≤ 10; omega) b0
  have c06 := c05.trans c6
  clear c05 c6 g6 h1 h2 h3 h4 h5
  walk_at "rd"
  rename_i p6 h6 p7 h7 ol h8
  have c8 := (Ch.new (W := []) h6 (.tup [V.str "IN"])).trans ((Ch.new h7 (.tup [V.int 3])).trans (Ch.new h8 (.lst [V.ref p1, V.non, V.ref p2, V.str "in", V.ref p3, V.ref p4, V.ref t, V.ref p6, V.ref p7, V.int 0])))
  refine ⟨c06.trans c8, zaak, fun v hv => ?_, by simp, by simp⟩
  simp only [List.mem_cons, List.not_mem_nil, or_false] at hv
  rcases hv with rfl | rfl | rfl | rfl | rfl | rfl | rfl | rfl | rfl | rfl
  ·exact o1.ch c8
  ·exact .th .non
  ·exact o2.ch c8
  ·exact .th (.str _)
  ·exact o3.ch c8
  ·exact o4.ch c8
  ·exact o5.ch c8
  ·exact .tu (zaa3 h8 (zaa3 h7 zaak)) (fun x hx => by simp at hx; subst hx; exact .str _) (by simp) (zadq i n (by decide +kernel) (by decide +kernel))
  ·exact .tu (zaa3 h8 zaak) (fun x hx => by simp at hx; subst hx; exact .int _) (by simp) rfl
  ·exact .th (.int _)
 rintro σ H1 ⟨ol, L, rfl, os⟩
 walk_at "rd"
 refine zac9 (OSt H m i n p 17) ?_ ?_
 ·have hp1 := os.ch.get hp0.h (by simp)
  have og := os.g
  have ol2 := os.l2
  clear hp
  rcases g.parts with ⟨ff, a, rfl⟩ | ⟨wd, r, c, ev, hk, hc, hl, ht, l3⟩
  ·have hp1 : H1 p = some (.tup [.str "keep", .int ff, .int a]) := hp1
   walk_at "rd"
   refine zac9 (OSt H m i n p 14) ?_ ?_
   ·walk_at "rd"
    rename_i p5 h5 p4 h4 p3 h3 p2 h2 p1 h1 po ho
    refine os.add ((Ch.new h5 _).trans ((Ch.new h4 _).trans ((Ch.new h3 _).trans ((Ch.new h2 _).trans ((Ch.new h1 _).trans (Ch.new ho _)))))) zaak (fun v hv => ?_) (by simp)
    have th : ∀ (y z : V) (x : V), Th y → Th z → x ∈ [V.str "keep", y, z] → Th x := fun y z x ty tz hx => by
     simp only [List.mem_cons, List.not_mem_nil, or_false] at hx
     rcases hx with rfl | rfl | rfl
     ·exact .str _
     ·exact ty
     ·exact tz
    simp only [List.mem_cons, List.not_mem_nil, or_false] at hv
    rcases hv with rfl | rfl | rfl | rfl
    ·exact .tu (zaa3 ho (zaa3 h1 (zaa3 h2 (zaa3 h3 (zaa3 h4 zaak))))) (fun x hx => th _ _ x (.int _) (.int _) hx) (by simp) (by rw [zack, zap5]; rfl)
    ·exact .tu (zaa3 ho (zaa3 h1 (zaa3 h2 (zaa3 h3 zaak)))) (fun x hx => th _ _ x (.int _) (.int _) hx) (by simp) (by rw [zack]; rfl)
    ·exact .tu (zaa3 ho (zaa3 h1 (zaa3 h2 zaak))) (fun x hx => th _ _ x (.int _) (.int _) hx) (by simp) (by rw [zack, zano, Bool.and_false])
    ·exact .tu (zaa3 ho (zaa3 h1 zaak)) (fun x hx => th _ _ x (.int _) (.int _) hx) (by simp) (by rw [zack]; show (_ && false) = false; rw [Bool.and_false])
   ·rintro σ H2 ⟨o2, L2, rfl, os2⟩
    have hp2 : H2 p = some (.tup [.str "keep", .int ff, .int a]) := by
     have := os2.ch.get hp0.h (by simp)
     exact this
    have og2 := os2.g
    have ol3 := os2.l2
    clear hp1 os og ol2
    walk_at "rd"
    rename_i p4 h4 p3 h3 p2 h2 p1 h1 po ho
    refine os2.add ((Ch.new h4 _).trans ((Ch.new h3 _).trans ((Ch.new h2 _).trans ((Ch.new h1 _).trans (Ch.new ho _))))) zaak (fun v hv => ?_) (by simp)
    simp only [List.mem_cons, List.not_mem_nil, or_false] at hv
    rcases hv with rfl | rfl | rfl
    ·exact .tu (zaa3 ho (zaa3 h1 (zaa3 h2 (zaa3 h3 zaak)))) (fun x hx => by simp only [List.mem_cons, List.not_mem_nil, or_false] at hx; rcases hx with rfl | rfl | rfl; exact .str _; exact .bl _; exact .int _) (by simp) (by rw [zack]; rfl)
    ·exact .tu (zaa3 ho (zaa3 h1 (zaa3 h2 zaak))) (fun x hx => by simp only [List.mem_cons, List.not_mem_nil, or_false] at hx; rcases hx with rfl | rfl; exact .str _; exact .int _) (by simp) (zadz i n (by simp))
    ·exact .tu (zaa3 ho (zaa3 h1 zaak)) (fun x hx => by simp only [List.mem_cons, List.not_mem_nil, or_false] at hx; rcases hx with rfl | rfl | rfl; exact .str _; exact .non; exact .int _) (by simp) (by rw [zack]; rfl)
  ·rw [ev] at hp1
   walk_at "rd"
   refine zapa hk ?_
   cases r with
   | nil =>
    walk_at "rd"
    exact os.up (by omega)
   | cons x r' =>
    have e1 : cutV (V.str wd :: x :: r') none (some 1) = [V.str wd] := rfl
    have e2 : cutV (V.str wd :: x :: r') (some 2) none = r' := cut2 _ _ _
    have e3 := zalv (V.str wd) x r'
    have lr2 : r'.length ≤ 2 := by rw [List.length_cons] at l3; omega
    have ldl : (x :: r').dropLast.length = r'.length := by rw [List.length_dropLast, List.length_cons]; omega
    have tdl : ∀ z ∈ (x :: r').dropLast, Th z := fun z hz => ht z (List.dropLast_subset _ hz)
    walk_at "rd"
    refine ite2 (fun _ => ?_) (fun h => absurd h (by simp; omega))
    walk_at "rd"
    refine zac9 (OSt H m i n p 13) ?_ ?_
    ·walk_at "rd"
     rename_i tAa HAa cAa gAa pYa hYa
     refine ⟨by rw [e1]; simp, by rw [e1, sizeLine_eq]; show 1 + 1 ≤ 16777216; decide, fun tB HB cB gB => ?_⟩
     have cAB := (cAa.trans (Ch.new hYa _)).trans cB
     rw [e1] at gB
     have hpB := cAB.get hp1 (by simp)
     clear cAa cB hYa
     walk_at "rd"
     rename_i tC HC cC gC
     rw [e2] at gC
     have gB2 := cC.get gB (by simp)
     refine ⟨by simp, by rw [e2, sizeLine_eq]; show 2 + r'.length ≤ 16777216; omega, fun ta Ha ca ga => ?_⟩
     rw [e2] at ga
     have c0a := (cAB.trans cC).trans ca
     have hpa := c0a.get hp1 (by simp)
     have oa : OddAt Ha i n (.ref ta) := .tu ga (zah8 (.int _) ht) (zaf5 l3) (zads (x := .int i) i n hk (List.mem_cons_self ..) (zano i))
     clear cAB cC ca gB gB2 gC hpB gAa ga
     have oga := c0a.get og (by simp)
     clear og
     walk_at "rd"
     rename_i tA HA cA gA pY hY
     refine ⟨by rw [e3]; simp, by rw [e3, sizeLine_eq, List.length_cons, ldl]; show r'.length + 1 + 1 ≤ 16777216; omega, fun tb Hb cb gb => ?_⟩
     rw [e3] at gb
     have c0b := (cA.trans (Ch.new hY _)).trans cb
     have hpb := c0b.get hpa (by simp)
     have ogb := c0b.get oga (by simp)
     have ob1 := oa.ch c0b
     have ob : OddAt Hb i n (.ref tb) := .tu gb (fun z hz => by
      rcases List.mem_append.mp hz with h | h
      ·rcases List.mem_cons.mp h with rfl | h
       ·exact .str _
       ·exact tdl z h
      ·rw [List.mem_singleton.mp h]; exact .int _) (by rw [List.length_append, List.length_cons, ldl]; show r'.length + 1 + 1 ≤ 10; omega) (zads (x := .int (i + 1)) i n hk (List.mem_append_right _ (List.mem_singleton.mpr rfl)) (zap7 i))
     clear cA cb gA gb hY oga oa
     walk_at "rd"
     rename_i tC HC cC gC pL hL po ho
     rw [e3] at gC
     have cf := (Ch.new (W := []) hL (.lst [V.ref ta, V.ref tb, V.ref tC])).trans (Ch.new ho (.lst (L ++ [V.ref ta, V.ref tb, V.ref tC])))
     refine os.add (((c0a.trans c0b).trans cC).trans cf) zaak (fun v hv => ?_) (by simp)
     simp only [List.mem_cons, List.not_mem_nil, or_false] at hv
     rcases hv with rfl | rfl | rfl
     ·exact (ob1.ch cC).ch cf
     ·exact (ob.ch cC).ch cf
     ·exact .tu (cf.get gC (by simp)) (fun z hz => by
       rcases List.mem_cons.mp hz with rfl | h
       ·exact .str _
       ·exact tdl z h) (by rw [List.length_cons, ldl]; omega) (zah7 i n hk hc (by rw [ldl, ← hl, List.length_cons]; omega))
    ·rintro σ H2 ⟨o2, L2, rfl, os2⟩
     have hp2 : H2 p = some (.tup (V.str wd :: x :: r')) := by rw [← ev]; exact os2.ch.get hp0.h (by simp)
     have og2 := os2.g
     have ol3 := os2.l2
     clear hp1 os og ol2
     walk_at "rd"
     rename_i tAa HAa cAa gAa pYa hYa
     refine ⟨by rw [e1]; simp, by rw [e1, sizeLine_eq]; show 1 + 1 ≤ 16777216; decide, fun tB HB cB gB => ?_⟩
     have cAB := (cAa.trans (Ch.new hYa _)).trans cB
     rw [e1] at gB
     have hpB := cAB.get hp2 (by simp)
     clear cAa cB hYa
     walk_at "rd"
     rename_i tC HC cC gC
     rw [e2] at gC
     have gB2 := cC.get gB (by simp)
     refine ⟨by simp, by rw [e2, sizeLine_eq]; show 2 + r'.length ≤ 16777216; omega, fun ta Ha ca ga => ?_⟩
     rw [e2] at ga
     have c0a := (cAB.trans cC).trans ca
     have hpa := c0a.get hp2 (by simp)
     have oa : OddAt Ha i n (.ref ta) := .tu ga (zah8 (.int _) ht) (zaf5 l3) (zads (x := .int (-1)) i n hk (List.mem_cons_self ..) (zap6 i))
     clear cAB cC ca gB gB2 gC hpB gAa ga
     have oga := c0a.get og2 (by simp)
     clear og2
     walk_at "rd"
     rename_i tAb HAb cAb gAb pYb hYb
     refine ⟨by rw [e1]; simp, by rw [e1, sizeLine_eq]; show 1 + 1 ≤ 16777216; decide, fun tB HB cB gB => ?_⟩
     have cAB := (cAb.trans (Ch.new hYb _)).trans cB
     rw [e1] at gB
     have hpB := cAB.get hpa (by simp)
     clear cAb cB hYb
     walk_at "rd"
     rename_i tC HC cC gC
     rw [e2] at gC
     have gB2 := cC.get gB (by simp)
     refine ⟨by simp, by rw [e2, sizeLine_eq]; show 2 + r'.length ≤ 16777216; omega, fun tb Hb cb gb => ?_⟩
     rw [e2] at gb
     have c0b := (cAB.trans cC).trans cb
     have hpb := c0b.get hpa (by simp)
     have ob : OddAt Hb i n (.ref tb) := .tu gb (zah8 (.bl _) ht) (zaf5 l3) (zads (x := .bl true) i n hk (List.mem_cons_self ..) rfl)
     clear cAB cC cb gB gB2 gC hpB gAb gb
     have ogb := c0b.get oga (by simp)
     have ob1 := oa.ch c0b
     clear oga oa
     walk_at "rd"
     rename_i tAc HAc cAc gAc pYc hYc
     refine ⟨by rw [e1]; simp, by rw [e1, sizeLine_eq]; show 1 + 1 ≤ 16777216; decide, fun tB HB cB gB => ?_⟩
     have cAB := (cAc.trans (Ch.new hYc _)).trans cB
     rw [e1] at gB
     have hpB := cAB.get hpb (by simp)
     clear cAc cB hYc
     walk_at "rd"
     rename_i tC HC cC gC
     rw [e2] at gC
     have gB2 := cC.get gB (by simp)
     refine ⟨by simp, by rw [e2, sizeLine_eq]; show 2 + r'.length ≤ 16777216; omega, fun tc Hc cc gc => ?_⟩
     rw [e2] at gc
     have c0c := (cAB.trans cC).trans cc
     have hpc := c0c.get hpb (by simp)
     have oc : OddAt Hc i n (.ref tc) := .tu gc (zah8 .non ht) (zaf5 l3) (zads (x := .non) i n hk (List.mem_cons_self ..) rfl)
     clear cAB cC cc gB gB2 gC hpB gAc gc
     have ogc := c0c.get ogb (by simp)
     have oc1 := ob1.ch c0c
     have oc2 := ob.ch c0c
     clear ogb ob1 ob
     walk_at "rd"
     rename_i pL hL po ho
     have cf := (Ch.new (W := []) hL (.lst [V.ref ta, V.ref tb, V.ref tc])).trans (Ch.new ho (.lst (L2 ++ [V.ref ta, V.ref tb, V.ref tc])))
     refine os2.add (((c0a.trans c0b).trans c0c).trans cf) zaak (fun v hv => ?_) (by simp)
     simp only [List.mem_cons, List.not_mem_nil, or_false] at hv
     rcases hv with rfl | rfl | rfl
     ·exact oc1.ch cf
     ·exact oc2.ch cf
     ·exact oc.ch cf
 rintro σ H2 ⟨ol2, L2, rfl, os2⟩
 have og := os2.g
 have l1 := os2.l1
 have l2 := os2.l2
 walk_at "rd"
 exact Atx.any (Int.emod_nonneg _ (by omega)) (Int.emod_lt_of_pos _ (by omega)) fun v hv _ => q v H2 os2.ch (os2.a v hv)
end
end

section
section
variable {P : Program} {w : World} {K : PySem.W.Frag} {mg : Str → Option Value} {base : Heap} {f : Addr} {fd : FuncData} {k : Nat}
theorem zaki : Nd "Net" := by decide +kernel
theorem zags : Nd "_law_word" := by decide +kernel
theorem zaf6 : Nd "FloorError" := by decide +kernel
theorem av29 : AF (defScope (top 29)) ["_law_gates", "_law_outs", "_law_told", "_law_e"] := ⟨by decide +kernel⟩
theorem gl29 : AG (defScope (top 29)) ["Net", "_law_word", "FloorError"] := ⟨by decide +kernel⟩
theorem zap8 : (defScope (top 29)).names.lookup (Str.ofString "_law_e") = some NameKind.local := by decide +kernel
structure NBad (H : Hp) (gl ol : Addr) (r : Int) : Prop where
 ex : ∃ (xs ys : List V) (gs : List GV), NIn .list H gl ol xs ys gs ∧ ((∃ s : Nat, r = (s : Int) ∧ GoodTo gs s ∧ BadAt gs s) ∨ (r = -1 ∧ GoodTo gs gs.length ∧ ∃ y ∈ ys, belB y (gs.length : Int) = false))
theorem NIn.ch {kd : SK} {H H' : Hp} {gl ol : Addr} {xs ys : List V} {gs : List GV} (h : NIn kd H gl ol xs ys gs) (c : Ch [] H H') : NIn kd H' gl ol xs ys gs := ⟨h.g.ch c, h.o.ch c, h.l.ch c, h.t, h.n, h.m⟩
def spRef : Sp := fun vs H Q _ => ∃ (gl ol : Addr) (r : Int), vs = [.ref gl, .ref ol] ∧ NBad H gl ol r ∧ ∀ H', Ch [] H H' → Q (.int r) H'
theorem scRef : FnScope ["_law_gates", "_law_outs", "_law_told", "_law_e"] ["_law_gates", "_law_outs"] (defScope (top 29)) := ⟨rfl, rfl, rfl, by decide +kernel, rfl, by decide +kernel, by decide +kernel⟩
theorem zapk {C CT CF : Addr} (F : Fun K "_law_refused" "_law_refused" (top 29) f fd) (MkXNet : MakeOk P w K mg base (CXE P w) k C "Net" ["self", "gates", "outs"] (spNet C CT)) (D_law_word : DefOkH P w K mg base (k + 1) "_law_word" ["_law_e"] (spWord CT "net"))
  (xa : XA K CT) (m_FloorError : mg "FloorError" = some (.ref CF)) (X_FloorError : XB K CF) (X_NoNet : XB K CT) (sub : XSub K CT CF) (hdT : PySem.W.hasDictIn K CT = true) (nL : NoAttr K CT "gate") : FnOk P w K mg base CX0 (k + 2) f fd ["_law_gates", "_law_outs"] spRef := by
 have nd := scRef.nd
 refine F.ok scRef (fun vs H Q E h => by obtain ⟨gl, ol, r, rfl, _⟩ := h; rfl) (fun cdv A outer s H vs Q E hr h => ?_)
 obtain ⟨gl, ol, r, rfl, ⟨xs, ys, gs, ni, bad⟩, q⟩ := h
 have hrm := hr
 refine ⟨_, (Pr.h (zaaj (zaa0 (i := 2) nd rfl (av29.l 2 rfl) zab4) (zab6 (zand (i := 3) (fun _ _ h => h) rfl rfl rfl nd rfl zap8 (gl29.g 2 rfl) m_FloorError X_FloorError (zalh (zalg (zajz (fun _ _ h => h) MkXNet hrm (gl29.g 0 rfl) (zaaa (qv av29 0 rfl) (zaaa (qv av29 1 rfl) zaab zaae) zaae) zaki))) (fun ea => (zaam (zaa0 (i := 2) nd rfl (av29.l 2 rfl) (zaa9 (zaaa (zajx D_law_word (hr.hand ea) (gl29.g 1 rfl) (zaaa (qv av29 3 rfl) zaab zaae) zags) (zaaa (qv av29 3 rfl) zaab zaae) zaa4))))) zaf6) (zaaj (zaa2 (zaca (zacj (zaau zaei (qv av29 2 rfl) zab4 (nomark _)) (zab1 (zaau zade (zaaz zabf (qv av29 2 rfl) zaad (fun _ _ => rfl)) zaas (nomark _))))) (zaam (zaat zab4)) zaar) (zaam (zaat (zalo (zaaz zabf (qv av29 2 rfl) zaad (fun _ _ => rfl))))))))), ?_⟩
 (try dsimp only [cxOf])
 walk_at "rd"
 refine zac9 (fun σ H' => ∃ tp ea d, σ = [some (.ref gl), some (.ref ol), some (.ref tp), none] ∧ Ch [] H H' ∧ H' tp = some (.tup [.str "net", .ref ea]) ∧ H' ea = some (exO ea CT (some d)) ∧ H' d = some (.xd [("gate", .int r)])) ?_ ?_
 ·walk_at "rd"
  rename_i x dx hx hdx nx
  have ci : Ch [] H (upd (upd H dx (.own x)) x (.ins C dx [])) := (Ch.new hdx _).trans (Ch.new (by rw [zaax nx.symm]; exact hx) _)
  rcases bad with ⟨s, rfl, gd, bd⟩ | ⟨rfl, gd, bd⟩
  ·refine ⟨ni.ch ci, .inr (.inl ⟨s, gd, bd, fun d H' c hd => ?_⟩)⟩
   have c2 := ci.trans c
   clear ci c hx hdx ni gd bd
   walk_at "rd"
   rename_i ea hea
   refine ⟨⟨_, zaa3 hea hd⟩, fun H2 c3 => ?_⟩
   have e2 := c3.get (zaak (o := exO ea CT (some d)) (a := ea) (H := H')) (by simp)
   have f2 := c3.get (zaa3 hea hd) (by simp)
   have c4 := (c2.trans (Ch.new hea _)).trans c3
   clear c2 c3 hea hd
   walk_at "rd"
  ·refine ⟨ni.ch ci, .inr (.inr ⟨gd, bd, fun d H' c hd => ?_⟩)⟩
   have c2 := ci.trans c
   clear ci c hx hdx ni gd bd
   walk_at "rd"
   rename_i ea hea
   refine ⟨⟨_, zaa3 hea hd⟩, fun H2 c3 => ?_⟩
   have e2 := c3.get (zaak (o := exO ea CT (some d)) (a := ea) (H := H')) (by simp)
   have f2 := c3.get (zaa3 hea hd) (by simp)
   have c4 := (c2.trans (Ch.new hea _)).trans c3
   clear c2 c3 hea hd
   walk_at "rd"
 ·rintro σ H1 ⟨tp, ea, d, rfl, d1, g1, e1, f1⟩
  have lk : List.lookup (Str.ofString "gate") [(Str.ofString "gate", V.int r)] = some (V.int r) := rfl
  walk_at "rd"
  exact q H1 d1
end
end

section
theorem zakj (l : List Nat) (n : Nat) (H : Hp) : Paired (Eqv (n + 1) H) (l.map nV) (l.map nV) := by
 induction l with
 | nil => exact .nil
 | cons a l ih => exact .cons (.inl ⟨.inl (a : Int), rfl, rfl⟩) ih
theorem zad7 {H : Hp} {p r : Addr} {l : List Nat} (n : Nat) (h1 : H p = some (.lst (l.map nV))) (h2 : H r = some (.lst (l.map nV))) (hl : l.length ≤ 300) : EqvS (n + 2) H (.ref p) (.ref r) := ⟨.inr (.inr ⟨p, r, _, _, rfl, rfl, h1, h2, zakj l n H, by rw [List.length_map]; exact hl⟩)⟩
theorem NetAt.ch {C : Addr} {H H' : Hp} {nt gp op : Addr} {gs : List Gt} {xs : List V} {os : List Nat} (h : NetAt C H nt gp op gs xs os) (c : Ch [] H H') : NetAt C H' nt gp op gs xs os :=
 ⟨let ⟨dx, e⟩ := h.ob; ⟨dx, c.get e (by simp)⟩, c.get h.gt (by simp), h.gg.tu (Tu.same c), c.get h.ot (by simp)⟩
theorem Ch.tuW {W : List Addr} {H H' : Hp} (hW : ∀ w ∈ W, ∃ zs, H w = some (.lst zs)) (c : Ch W H H') : Tu H H' := fun p xs h => c p _ h fun hp => by
 obtain ⟨zs, e⟩ := hW p hp
 rw [h] at e
 cases e
section
variable {P : Program} {w : World} {K : PySem.W.Frag} {mg : Str → Option Value} {base : Heap} {f : Addr} {fd : FuncData} {k : Nat}
theorem zaey : Nd "keeps_of" := by decide +kernel
theorem zagt : Nd "ins_of" := by decide +kernel
theorem zaez : Nd "feeds_of" := by decide +kernel
theorem av30 : AF (defScope (top 30)) ["_law_net_here", "_law_gates", "_law_ins", "_law_keeps", "_law_found", "_law_due", "_law_gate", "_law_told"] := ⟨by decide +kernel⟩
theorem gl30 : AG (defScope (top 30)) ["enumerate", "keeps_of", "ins_of", "_law_same", "list", "feeds_of"] := ⟨by decide +kernel⟩
def zahk : Scope := { kind := PySem.ScopeKind.function, names := [ (PySem.Str.ofString ".0", PySem.NameKind.local), (PySem.Str.ofString "_law_number", PySem.NameKind.local), (PySem.Str.ofString "_law_gate", PySem.NameKind.local)], isGenerator := false, isCoroutine := false, more := [] : PySem.Scope }
theorem zahl : CompOk zahk (defScope (top 30)) (["_law_number", "_law_gate"] : List Str) (["_law_net_here", "_law_gates", "_law_ins", "_law_keeps", "_law_found", "_law_due", "_law_gate", "_law_told"] : List Str) [] (["_law_number", "_law_gate"] : List Str) := compOk rfl (by decide +kernel) (by decide +kernel) (by decide +kernel) (by decide +kernel) rfl (by decide +kernel)
theorem zaf7 : AK (relab zahk (defScope (top 30))) ["_law_number", "_law_gate"] := ⟨by decide +kernel⟩
theorem zakk : AV (relab zahk (defScope (top 30))) ["_law_number", "_law_gate"] := ⟨by decide +kernel⟩
def zahm : Scope := { kind := PySem.ScopeKind.function, names := [ (PySem.Str.ofString ".0", PySem.NameKind.local), (PySem.Str.ofString "_law_number", PySem.NameKind.local), (PySem.Str.ofString "_law_gate", PySem.NameKind.local)], isGenerator := false, isCoroutine := false, more := [] : PySem.Scope }
theorem zahn : CompOk zahm (defScope (top 30)) (["_law_number", "_law_gate"] : List Str) (["_law_net_here", "_law_gates", "_law_ins", "_law_keeps", "_law_found", "_law_due", "_law_gate", "_law_told"] : List Str) [] (["_law_number", "_law_gate"] : List Str) := compOk rfl (by decide +kernel) (by decide +kernel) (by decide +kernel) (by decide +kernel) rfl (by decide +kernel)
theorem zaf8 : AK (relab zahm (defScope (top 30))) ["_law_number", "_law_gate"] := ⟨by decide +kernel⟩
theorem zakl : AV (relab zahm (defScope (top 30))) ["_law_number", "_law_gate"] := ⟨by decide +kernel⟩
def spLists (C : Addr) : Sp := fun vs H Q _ => ∃ (nt gl gp op : Addr) (gs : List Gt) (xs : List V) (os : List Nat), vs = [.ref nt, .ref gl] ∧ NetAt C H nt gp op gs xs os ∧ H gl = some (.lst xs) ∧ gs.length ≤ 100 ∧ ∀ H', Ch [] H H' → Q (.bl true) H'
theorem scLists : FnScope ["_law_net_here", "_law_gates", "_law_ins", "_law_keeps", "_law_found", "_law_due", "_law_gate", "_law_told"] ["_law_net_here", "_law_gates"] (defScope (top 30)) := ⟨rfl, rfl, rfl, by decide +kernel, rfl, by decide +kernel, by decide +kernel⟩
theorem zalw {C : Addr} (F : Fun K "_law_lists" "_law_lists" (top 30) f fd) (Dins_of : DefOk P w K mg base CX0 k "ins_of" ["net"] (spIns C)) (Dkeeps_of : DefOk P w K mg base CX0 k "keeps_of" ["net"] (spKeeps C)) (Dfeeds_of : DefOk P w K mg base CX0 k "feeds_of" ["gate"] spFeeds) (D_law_same : DefOk P w K mg base CX0 k "_law_same" ["_law_found", "_law_due"] (spSame 4)) (z_enumerate : mg "enumerate" = none) (z_list : mg "list" = none) : FnOk P w K mg base CX0 (k + 1) f fd ["_law_net_here", "_law_gates"] (spLists C) := by
 have nd := scLists.nd
 refine F.ok scLists (fun vs H Q E h => by obtain ⟨nt, gl, gp, op, gs, xs, os, rfl, _⟩ := h; rfl) (fun cdv A outer s H vs Q E hr h => ?_)
 obtain ⟨nt, gl, gp, op, gs, xs, os, rfl, na, hg, l100, q⟩ := h
 refine ⟨_, (Pr.h (zaaj (zah0 (i := 2) nd rfl (av30.l 2 rfl) rfl zahl (zado .list (gl30.g 0 rfl) z_enumerate (zaaa (qv av30 1 rfl) zaab zaae)) (fun _ _ _ _ _ => (zac2 K 2 rfl rfl (zaa8 (zaay (i := 0) zahl.nd rfl (Or.inl (zaf7.k 0 rfl)) (Or.inr (zaf7.k 0 rfl))) (zaa8 (zaay (i := 1) zahl.nd rfl (Or.inl (zaf7.k 1 rfl)) (Or.inr (zaf7.k 1 rfl))) zacf)))) (fun _ _ _ _ _ => (zadn (zaau zac8 (zaaz (zadb K rfl) (qw zakk 1 rfl) zaad (fun _ _ => rfl)) zaas (nomark _)))) (fun _ _ _ _ _ => (qw zakk 0 rfl)) rfl) (zaaj (zah0 (i := 3) nd rfl (av30.l 3 rfl) rfl zahn (zado .list (gl30.g 0 rfl) z_enumerate (zaaa (qv av30 1 rfl) zaab zaae)) (fun _ _ _ _ _ => (zac2 K 2 rfl rfl (zaa8 (zaay (i := 0) zahn.nd rfl (Or.inl (zaf8.k 0 rfl)) (Or.inr (zaf8.k 0 rfl))) (zaa8 (zaay (i := 1) zahn.nd rfl (Or.inl (zaf8.k 1 rfl)) (Or.inr (zaf8.k 1 rfl))) zacf)))) (fun _ _ _ _ _ => (zadn (zaau zac8 (zaaz (zadb K rfl) (qw zakl 1 rfl) zaad (fun _ _ => rfl)) zaas (nomark _)))) (fun _ _ _ _ _ => (qw zakl 0 rfl)) rfl) (zaaj (zab5 PassesOwn.never rfl (zag0 (zaa9 (zaaa (zaa9 (zaaa (zaap Dins_of hr (gl30.g 2 rfl) pass0 (zaaa (qv av30 0 rfl) zaab zaae) zagt) (zaaa (qv av30 2 rfl) zaab zaae) zaa4)) (zaaa (zaa9 (zaaa (zaap Dkeeps_of hr (gl30.g 1 rfl) pass0 (zaaa (qv av30 0 rfl) zaab zaae) zaey) (zaaa (qv av30 3 rfl) zaab zaae) zaa4)) (zaaa (zaa9 (zaaa (zaap Dins_of hr (gl30.g 2 rfl) pass0 (zaaa (qv av30 0 rfl) zaab zaae) zagt) (zaaa (qv av30 2 rfl) zaab zaae) zaa4)) (zaaa (zaa9 (zaaa (zaap Dkeeps_of hr (gl30.g 1 rfl) pass0 (zaaa (qv av30 0 rfl) zaab zaae) zaey) (zaaa (qv av30 3 rfl) zaab zaae) zaa4)) zaab zabg) zabg) zabg) zabg))) (zag2 rfl (zaa8 (zaay (i := 4) nd rfl (av30.l 4 rfl)) (zaa8 (zaay (i := 5) nd rfl (av30.l 5 rfl)) zacf))) (zaaj (zaa2 (zabq (zaa7 (zaap D_law_same hr (gl30.g 3 rfl) pass0 (zaaa (qv av30 4 rfl) (zaaa (qv av30 5 rfl) zaab zaae) zaae) zaa1))) (zaam (zaat zabt)) zaar) (zaam (zaco (zaec PySem.F.plainAttrs_list PySem.F.slot_list_append PySem.F.type_list_append zach (qv av30 4 rfl) (zaaa zaad zaab zaai)))))) (zaaj (zab5 PassesOwn.never rfl (zafl (qv av30 1 rfl)) (zaay (i := 6) nd rfl (av30.l 6 rfl)) (zab6 (zaa0 (i := 5) nd rfl (av30.l 5 rfl) (zaeo (zaau zac8 (zaaz zabf (qv av30 6 rfl) zaad (fun _ _ => rfl)) zaas (nomark _)) (zabd (zaaa (zaaz zabf (qv av30 6 rfl) zaad (fun _ _ => rfl)) zaab zaaq)) (zabo zacg (gl30.g 4 rfl) z_list zab7 (zaaa (zabc zahu (qv av30 6 rfl) (zabi zaad) zabh) zaab zaaq) zab8 zab9))) (zaaj (zaa0 (i := 7) nd rfl (av30.l 7 rfl) (zaap Dfeeds_of hr (gl30.g 5 rfl) pass0 (zaaa (qv av30 6 rfl) zaab zaae) zaez)) (zaaj (zaa2 (zabq (zaa7 (zaap D_law_same hr (gl30.g 3 rfl) pass0 (zaaa (qv av30 7 rfl) (zaaa (qv av30 5 rfl) zaab zaae) zaae) zaa1))) (zaam (zaat zabt)) zaar) (zaaj (zaco (zaec PySem.F.plainAttrs_list PySem.F.slot_list_append PySem.F.type_list_append zach (qv av30 7 rfl) (zaaa zaad zaab zaai))) (zaam (zaa2 (zabq (zaa7 (zaap D_law_same hr (gl30.g 3 rfl) pass0 (zaaa (zaap Dfeeds_of hr (gl30.g 5 rfl) pass0 (zaaa (qv av30 6 rfl) zaab zaae) zaez) (zaaa (qv av30 5 rfl) zaab zaae) zaa4) zaa1))) (zaam (zaat zabt)) zaar))))))) (zaam (zaat zabt))))))), ?_⟩
 (try dsimp only [cxOf])
 have hgs := na.gg
 have hx := hgs.len
 have bn : Box (NetAt C H nt gp op gs xs os) := ⟨na⟩
 clear na
 walk_at "rd"
 refine zadm xs (fun i ys σ H' => Ch [] H H' ∧ ys = (numsOf Gt.isIn (gs.take i) 0).map nV ∧ ∃ u v, σ = [u, v]) (by rw [sizeLine_eq]; omega) ⟨Ch.refl _ _, rfl, _, _, rfl⟩ ?_ ?_ ?_
 ·rintro i ys σ H' hi ⟨c, rfl, _⟩
  refine ⟨?_, SqL.of (c.get hg (by simp))⟩
  have := zace Gt.isIn (gs.take i) 0
  rw [List.length_take] at this
  rw [List.length_map]; omega
 ·rintro i ys σ H' x T hx' ⟨c, rfl, u, v, rfl⟩ hT
  have hi : i < gs.length := by rw [← hx]; exact (List.getElem?_eq_some_iff.mp hx').1
  obtain ⟨g, hgi⟩ : ∃ g, gs[i]? = some g := ⟨_, List.getElem?_eq_getElem hi⟩
  obtain ⟨p, ep, hp⟩ := hgs.at_ i g hgi
  rw [hx'] at ep
  cases ep
  have hp1 : H' p = some (.tup g.vs) := c.get hp (by simp)
  have nt := zac4 Gt.isIn hgi
  obtain ⟨wd, rs, ev, hd⟩ := zaj7 g
  rw [ev] at hp1
  walk_at "rd"
  rw [hd]
  cases ht : Gt.isIn g with
  | true =>
   refine iteT ?_
   walk_at "rd"
   refine ⟨?_, _, _, rfl⟩
   rw [nt, ht]; simp [nV]
  | false =>
   refine iteF ?_
   refine ⟨c.trans (Ch.new hT _), ?_, _, _, rfl⟩
   rw [nt, ht]; simp
 rintro ys σ Ha ⟨ca, rfl, _⟩
 rw [hx, List.take_length]
 intro pi hpi
 have c1 : Ch [] H (upd Ha pi (.lst ((numsOf Gt.isIn gs 0).map nV))) := ca.trans (Ch.new hpi _)
 have gi : (upd Ha pi (.lst ((numsOf Gt.isIn gs 0).map nV))) pi = some (.lst ((numsOf Gt.isIn gs 0).map nV)) := zaak
 generalize upd Ha pi (.lst ((numsOf Gt.isIn gs 0).map nV)) = H1 at c1 gi ⊢
 clear ca hpi
 have hg1 := c1.get hg (by simp)
 have hgs1 := hgs.tu (Tu.same c1)
 walk_at "rd"
 refine zadm xs (fun i ys σ H' => Ch [] H1 H' ∧ ys = (numsOf Gt.isKeep (gs.take i) 0).map nV ∧ ∃ u v, σ = [u, v]) (by rw [sizeLine_eq]; omega) ⟨Ch.refl _ _, rfl, _, _, rfl⟩ ?_ ?_ ?_
 ·rintro i ys σ H' hi ⟨c, rfl, _⟩
  refine ⟨?_, SqL.of (c.get hg1 (by simp))⟩
  have := zace Gt.isKeep (gs.take i) 0
  rw [List.length_take] at this
  rw [List.length_map]; omega
 ·rintro i ys σ H' x T hx' ⟨c, rfl, u, v, rfl⟩ hT
  have hi : i < gs.length := by rw [← hx]; exact (List.getElem?_eq_some_iff.mp hx').1
  obtain ⟨g, hgi⟩ : ∃ g, gs[i]? = some g := ⟨_, List.getElem?_eq_getElem hi⟩
  obtain ⟨p, ep, hp⟩ := hgs1.at_ i g hgi
  rw [hx'] at ep
  cases ep
  have hp1 : H' p = some (.tup g.vs) := c.get hp (by simp)
  have nt := zac4 Gt.isKeep hgi
  obtain ⟨wd, rs, ev, hd⟩ := zagr g
  rw [ev] at hp1
  walk_at "rd"
  rw [hd]
  cases ht : Gt.isKeep g with
  | true =>
   refine iteT ?_
   walk_at "rd"
   refine ⟨?_, _, _, rfl⟩
   rw [nt, ht]; simp [nV]
  | false =>
   refine iteF ?_
   refine ⟨c.trans (Ch.new hT _), ?_, _, _, rfl⟩
   rw [nt, ht]; simp
 rintro ys σ Hb ⟨cb, rfl, _⟩
 rw [hx, List.take_length]
 intro pk hpk
 have c2 : Ch [] H1 (upd Hb pk (.lst ((numsOf Gt.isKeep gs 0).map nV))) := cb.trans (Ch.new hpk _)
 have gk : (upd Hb pk (.lst ((numsOf Gt.isKeep gs 0).map nV))) pk = some (.lst ((numsOf Gt.isKeep gs 0).map nV)) := zaak
 generalize upd Hb pk (.lst ((numsOf Gt.isKeep gs 0).map nV)) = H2 at c2 gk ⊢
 have gi2 := c2.get gi (by simp)
 have c02 := c1.trans c2
 have nk : pi ≠ pk := fun z => by subst z; rw [chFree cb hpk] at gi; cases gi
 clear cb hpk gi hg1 hgs1 c1 c2
 walk_at "rd"
 refine ⟨bn.h.ch c02, by omega, fun f1 H3 d3 n3 g3 => ?_⟩
 have a1 : H f1 = none := chFree c02 n3
 have i1 : pi ≠ f1 := zaan gi2 n3
 have k1 : pk ≠ f1 := zaan gk n3
 walk_at "rd"
 rename_i T1 t1
 have c3 := d3.trans (Ch.new t1 (.tup [.ref f1, .ref pi]))
 have c03 := c02.trans c3
 have u1 : (upd H3 T1 (.tup [.ref f1, .ref pi])) T1 = some (.tup [.ref f1, .ref pi]) := zaak
 have v1 : (upd H3 T1 (.tup [.ref f1, .ref pi])) f1 = _ := zaa3 t1 g3
 have wi := c3.get gi2 (by simp)
 have wk := c3.get gk (by simp)
 refine ⟨bn.h.ch c03, by omega, fun f2 H4 d4 n4 g4 => ?_⟩
 have i2 : pi ≠ f2 := zaan wi n4
 have k2 : pk ≠ f2 := zaan wk n4
 have a2 : H f2 = none := chFree c03 n4
 have b12 : f1 ≠ f2 := zaan v1 n4
 walk_at "rd"
 rename_i T2 t2
 have c4 := d4.trans (Ch.new t2 (.tup [.ref f2, .ref pk]))
 have c04 := c03.trans c4
 have u2 : (upd H4 T2 (.tup [.ref f2, .ref pk])) T2 = some (.tup [.ref f2, .ref pk]) := zaak
 have v2 : (upd H4 T2 (.tup [.ref f2, .ref pk])) f2 = _ := zaa3 t2 g4
 have u1 := c4.get u1 (by simp)
 have v1 := c4.get v1 (by simp)
 have wi := c4.get wi (by simp)
 have wk := c4.get wk (by simp)
 refine ⟨bn.h.ch c04, by omega, fun f3 H5 d5 n5 g5 => ?_⟩
 have i3 : pi ≠ f3 := zaan wi n5
 have k3 : pk ≠ f3 := zaan wk n5
 have a3 : H f3 = none := chFree c04 n5
 have b13 : f1 ≠ f3 := zaan v1 n5
 have b23 : f2 ≠ f3 := zaan v2 n5
 walk_at "rd"
 rename_i T3 t3
 have c5 := d5.trans (Ch.new t3 (.tup [.ref f3, .ref pi]))
 have c05 := c04.trans c5
 have u3 : (upd H5 T3 (.tup [.ref f3, .ref pi])) T3 = some (.tup [.ref f3, .ref pi]) := zaak
 have v3 : (upd H5 T3 (.tup [.ref f3, .ref pi])) f3 = _ := zaa3 t3 g5
 have u1 := c5.get u1 (by simp)
 have v1 := c5.get v1 (by simp)
 have u2 := c5.get u2 (by simp)
 have v2 := c5.get v2 (by simp)
 have wi := c5.get wi (by simp)
 have wk := c5.get wk (by simp)
 refine ⟨bn.h.ch c05, by omega, fun f4 H6 d6 n6 g6 => ?_⟩
 have i4 : pi ≠ f4 := zaan wi n6
 have k4 : pk ≠ f4 := zaan wk n6
 have a4 : H f4 = none := chFree c05 n6
 have b14 : f1 ≠ f4 := zaan v1 n6
 have b24 : f2 ≠ f4 := zaan v2 n6
 have b34 : f3 ≠ f4 := zaan v3 n6
 walk_at "rd"
 rename_i T4 t4 TT tt
 have c6 := (d6.trans (Ch.new t4 (.tup [.ref f4, .ref pk]))).trans (Ch.new tt (.tup [.ref T1, .ref T2, .ref T3, .ref T4]))
 have c06 := c05.trans c6
 have u4 : (upd (upd H6 T4 (.tup [.ref f4, .ref pk])) TT (.tup [.ref T1, .ref T2, .ref T3, .ref T4])) T4 = some (.tup [.ref f4, .ref pk]) := zaa3 tt zaak
 have v4 : (upd (upd H6 T4 (.tup [.ref f4, .ref pk])) TT (.tup [.ref T1, .ref T2, .ref T3, .ref T4])) f4 = _ := zaa3 tt (zaa3 t4 g6)
 have uT : (upd (upd H6 T4 (.tup [.ref f4, .ref pk])) TT (.tup [.ref T1, .ref T2, .ref T3, .ref T4])) TT = some (.tup [.ref T1, .ref T2, .ref T3, .ref T4]) := zaak
 have u1 := c6.get u1 (by simp)
 have v1 := c6.get v1 (by simp)
 have u2 := c6.get u2 (by simp)
 have v2 := c6.get v2 (by simp)
 have u3 := c6.get u3 (by simp)
 have v3 := c6.get v3 (by simp)
 have wi := c6.get wi (by simp)
 have wk := c6.get wk (by simp)
 generalize upd (upd H6 T4 (.tup [.ref f4, .ref pk])) TT (.tup [.ref T1, .ref T2, .ref T3, .ref T4]) = H7 at *
 have lsF : ∀ w ∈ [f1, f2, f3, f4], ∃ zs, H7 w = some (.lst zs) := fun w hw => by
  simp only [List.mem_cons, List.not_mem_nil, or_false] at hw
  rcases hw with rfl | rfl | rfl | rfl
  ·exact ⟨_, v1⟩
  ·exact ⟨_, v2⟩
  ·exact ⟨_, v3⟩
  ·exact ⟨_, v4⟩
 have li := zace Gt.isIn gs 0
 have lk := zace Gt.isKeep gs 0
 have lmi : ((numsOf Gt.isIn gs 0).map nV).length ≤ 100 := by rw [List.length_map]; omega
 have lmk : ((numsOf Gt.isKeep gs 0).map nV).length ≤ 100 := by rw [List.length_map]; omega
 clear c3 c03 c4 c04 c5 c05 c6 c02 n3 n4 n5 n6 d3 d4 d5 d6 g3 g4 g5 g6 t1 t2 t3 t4 tt gi2 gk
 refine zahv (xs := [V.ref T1, V.ref T2, V.ref T3, V.ref T4]) (fun j σ H' => ∃ (x4 x5 : Option V), σ = [some (.ref nt), some (.ref gl), some (.ref pi), some (.ref pk), x4, x5, none, none] ∧ Ch [f1, f2, f3, f4] H7 H' ∧ (j < 1 → H' f1 = some (.lst ((numsOf Gt.isIn gs 0).map nV))) ∧ (j < 2 → H' f2 = some (.lst ((numsOf Gt.isKeep gs 0).map nV))) ∧ (j < 3 → H' f3 = some (.lst ((numsOf Gt.isIn gs 0).map nV))) ∧ (j < 4 → H' f4 = some (.lst ((numsOf Gt.isKeep gs 0).map nV)))) ⟨_, _, rfl, Ch.refl _ _, fun _ => v1, fun _ => v2, fun _ => v3, fun _ => v4⟩ ?_ ?_ ?_
 ·rintro j σ H' hj ⟨x4, x5, rfl, c, _⟩
  exact SqT.of (Ch.tuW lsF c _ _ uT)
 ·rintro j v σ H' hv ⟨x4, x5, rfl, c, e1, e2, e3, e4⟩
  have tu := Ch.tuW lsF c
  have wi' := c.get wi (by simp [i1, i2, i3, i4])
  have wk' := c.get wk (by simp [k1, k2, k3, k4])
  have hj := (List.getElem?_eq_some_iff.mp hv).1
  have : j = 0 ∨ j = 1 ∨ j = 2 ∨ j = 3 := by simp at hj; omega
  rcases this with rfl | rfl | rfl | rfl
  ·have ev : V.ref T1 = v := by simpa using hv
   subst ev
   have uu := tu _ _ u1
   have ff := e1 (by omega)
   have eq := zad7 2 ff wi' (by omega)
   have be1 : Box (0 < 1 → H' f1 = _) := ⟨e1⟩
   have be2 : Box (0 < 2 → H' f2 = _) := ⟨e2⟩
   have be3 : Box (0 < 3 → H' f3 = _) := ⟨e3⟩
   have be4 : Box (0 < 4 → H' f4 = _) := ⟨e4⟩
   clear e1 e2 e3 e4 uT u1 u2 u3 u4 v1 v2 v3 v4 wi wk
   walk_at "rd"
   rename_i H2 c2
   refine ⟨(c.trans c2.wk).trans (Ch.put.mono (by simp)), fun h => absurd h (by omega), fun _ => zacc b12.symm (c2.get (be2.h (by omega)) (by simp)), fun _ => zacc b13.symm (c2.get (be3.h (by omega)) (by simp)), fun _ => zacc b14.symm (c2.get (be4.h (by omega)) (by simp))⟩
  ·have ev : V.ref T2 = v := by simpa using hv
   subst ev
   have uu := tu _ _ u2
   have ff := e2 (by omega)
   have eq := zad7 2 ff wk' (by omega)
   have be1 : Box (1 < 1 → H' f1 = _) := ⟨e1⟩
   have be2 : Box (1 < 2 → H' f2 = _) := ⟨e2⟩
   have be3 : Box (1 < 3 → H' f3 = _) := ⟨e3⟩
   have be4 : Box (1 < 4 → H' f4 = _) := ⟨e4⟩
   clear e1 e2 e3 e4 uT u1 u2 u3 u4 v1 v2 v3 v4 wi wk
   walk_at "rd"
   rename_i H2 c2
   refine ⟨(c.trans c2.wk).trans (Ch.put.mono (by simp)), fun h => absurd h (by omega), fun h => absurd h (by omega), fun _ => zacc b23.symm (c2.get (be3.h (by omega)) (by simp)), fun _ => zacc b24.symm (c2.get (be4.h (by omega)) (by simp))⟩
  ·have ev : V.ref T3 = v := by simpa using hv
   subst ev
   have uu := tu _ _ u3
   have ff := e3 (by omega)
   have eq := zad7 2 ff wi' (by omega)
   have be1 : Box (2 < 1 → H' f1 = _) := ⟨e1⟩
   have be2 : Box (2 < 2 → H' f2 = _) := ⟨e2⟩
   have be3 : Box (2 < 3 → H' f3 = _) := ⟨e3⟩
   have be4 : Box (2 < 4 → H' f4 = _) := ⟨e4⟩
   clear e1 e2 e3 e4 uT u1 u2 u3 u4 v1 v2 v3 v4 wi wk
   walk_at "rd"
   rename_i H2 c2
   refine ⟨(c.trans c2.wk).trans (Ch.put.mono (by simp)), fun h => absurd h (by omega), fun h => absurd h (by omega), fun h => absurd h (by omega), fun _ => zacc b34.symm (c2.get (be4.h (by omega)) (by simp))⟩
  ·have ev : V.ref T4 = v := by simpa using hv
   subst ev
   have uu := tu _ _ u4
   have ff := e4 (by omega)
   have eq := zad7 2 ff wk' (by omega)
   have be1 : Box (3 < 1 → H' f1 = _) := ⟨e1⟩
   have be2 : Box (3 < 2 → H' f2 = _) := ⟨e2⟩
   have be3 : Box (3 < 3 → H' f3 = _) := ⟨e3⟩
   have be4 : Box (3 < 4 → H' f4 = _) := ⟨e4⟩
   clear e1 e2 e3 e4 uT u1 u2 u3 u4 v1 v2 v3 v4 wi wk
   walk_at "rd"
   rename_i H2 c2
   refine ⟨(c.trans c2.wk).trans (Ch.put.mono (by simp)), fun h => absurd h (by omega), fun h => absurd h (by omega), fun h => absurd h (by omega), fun h => absurd h (by omega)⟩
 ·rintro σ H8 ⟨x4, x5, rfl, c, _⟩
  have hn : ∀ {p o}, H p = some o → p ∉ [f1, f2, f3, f4] := fun {p o} hp hm => by
   simp only [List.mem_cons, List.not_mem_nil, or_false] at hm
   rcases hm with rfl | rfl | rfl | rfl <;> simp_all
  have c8 : Ch [] H H8 := fun p o hp _ => c p o (c06 p o hp (by simp)) (hn hp)
  clear u1 u2 u3 u4 uT v1 v2 v3 v4 wi wk lsF c c06 a1 a2 a3 a4 i1 i2 i3 i4 k1 k2 k3 k4 b12 b13 b14 b23 b24 b34 hn li lk lmi lmk
  have hg8 := c8.get hg (by simp)
  walk_at "rd"
  refine zagn (xs := xs) (fun j σ H' => ∃ (x4 x5 x6 x7 : Option V), σ = [some (.ref nt), some (.ref gl), some (.ref pi), some (.ref pk), x4, x5, x6, x7] ∧ Ch [] H H') ⟨_, _, _, _, rfl, c8⟩ ?_ ?_ ?_
  ·rintro j σ H' hj ⟨x4, x5, x6, x7, rfl, c⟩
   exact SqL.of (c.get hg (by simp))
  ·rintro j v σ H' hv ⟨x4, x5, x6, x7, rfl, c⟩
   clear c8 hg8
   have hi : j < gs.length := by rw [← hx]; exact (List.getElem?_eq_some_iff.mp hv).1
   obtain ⟨g, hgi⟩ : ∃ g, gs[j]? = some g := ⟨_, List.getElem?_eq_getElem hi⟩
   obtain ⟨p, ep, hp⟩ := hgs.at_ j g hgi
   rw [hv] at ep
   cases ep
   have hp1 : H' p = some (.tup g.vs) := c.get hp (by simp)
   refine zac9 (fun σ H2 => ∃ d, σ = [some (.ref nt), some (.ref gl), some (.ref pi), some (.ref pk), x4, some (.ref d), some (.ref p), x7] ∧ Ch [] H' H2 ∧ H2 d = some (.lst (g.feeds.map nV))) ?_ ?_
   ·clear hp hgi
    cases g with
    | keep ff a =>
     have hp1 : H' p = some (.tup [.str "keep", .int ff, .int a]) := hp1
     walk_at "rd"
    | _ =>
     dsimp only [Gt.vs] at hp1
     walk_at "rd"
   ·rintro σ H2 ⟨d, rfl, c2, gd⟩
    have hp2 := c2.get hp1 (by simp)
    have fl : (g.feeds).length ≤ 3 := by cases g <;> simp [Gt.feeds]
    have flm : (g.feeds.map nV).length ≤ 3 := by rw [List.length_map]; exact fl
    clear hp hgi hp1
    walk_at "rd"
    rename_i r H3 c3 nr gr
    have gd3 := c3.get gd (by simp)
    have hp3 := c3.get hp2 (by simp)
    have nd' : d ≠ r := zaan gd nr
    have np : p ≠ r := zaan hp2 nr
    refine ⟨zad7 2 gr gd3 (by omega), fun H4 c4 => ?_⟩
    have gd4 := c4.get gd3 (by simp)
    have hp4 := c4.get hp3 (by simp)
    have gr4 := c4.get gr (by simp)
    clear hp2 gd hp3 gd3 gr
    walk_at "rd"
    rename_i r2 H5 c5 n5 g5
    refine ⟨zad7 2 g5 (c5.get (zacc nd' gd4) (by simp)) (by omega), fun H6 c6 => ?_⟩
    have nr0 : H r = none := chFree (c.trans c2) nr
    have c04 := ((c.trans c2).trans c3).trans c4
    have c05 : Ch [] H (upd H4 r (.lst (g.feeds.map nV ++ [V.int 99]))) := fun p o hp hn => by rw [zaax (zaan hp nr0)]; exact c04 p o hp hn
    have c06' := (c05.trans c5).trans c6
    clear c c2 c3 c4 c5 c6 c04 c05 gd4 hp4 gr4 g5
    walk_at "rd"
  ·rintro σ H9 ⟨x4, x5, x6, x7, rfl, c⟩
   walk_at "rd"
   exact q _ c
end
end

section
def gvs (gs : List Gt) : List GV := gs.map fun g => .tup g.vs
theorem Gt.th (g : Gt) : (∀ x ∈ g.vs, Th x) ∧ g.vs.length ≤ 10 := by
 cases g <;> refine ⟨fun x hx => ?_, by simp [Gt.vs]⟩ <;> simp only [Gt.vs, List.mem_cons, List.not_mem_nil, or_false] at hx <;>
  first | (rcases hx with rfl | rfl | rfl | rfl <;> constructor) | (rcases hx with rfl | rfl | rfl <;> constructor) | (rcases hx with rfl | rfl <;> constructor) | (subst hx; constructor)
theorem zacn {a n : Nat} (h : a < n) : belB (.int (a : Int)) (n : Int) = true := by
 show (decide (0 ≤ (a : Int)) && decide ((a : Int) < (n : Int))) = true
 rw [decide_eq_true (by omega), decide_eq_true (by omega)]; rfl
theorem zanp {g : Gt} {i n : Nat} (h : g.ok i n) : gateB g.vs (i : Int) (n : Int) = true := by
 cases g with
 | keep f a =>
  obtain ⟨h0, h1, h2⟩ := h
  show gateB [.str "keep", _, _] _ _ = true
  rw [zack, zacn h2]
  show ((decide (0 ≤ f) && decide (f < 2)) && true) = true
  rw [decide_eq_true h0, decide_eq_true h1]; rfl
 | inp => exact (zabv (c := 0) _ _ (by decide +kernel) (by decide +kernel)).trans (by simp)
 | zero => exact (zabv (c := 0) _ _ (by decide +kernel) (by decide +kernel)).trans (by simp)
 | one => exact (zabv (c := 0) _ _ (by decide +kernel) (by decide +kernel)).trans (by simp)
 | not a => exact (zabv (c := 1) _ _ (by decide +kernel) (by decide +kernel)).trans (by simp [zacn (show a < i from h)])
 | and a b => exact (zabv (c := 2) _ _ (by decide +kernel) (by decide +kernel)).trans (by simp [zacn (show a < i from h.1), zacn (show b < i from h.2)])
 | or a b => exact (zabv (c := 2) _ _ (by decide +kernel) (by decide +kernel)).trans (by simp [zacn (show a < i from h.1), zacn (show b < i from h.2)])
 | xor a b => exact (zabv (c := 2) _ _ (by decide +kernel) (by decide +kernel)).trans (by simp [zacn (show a < i from h.1), zacn (show b < i from h.2)])
 | pick a b c => exact (zabv (c := 3) _ _ (by decide +kernel) (by decide +kernel)).trans (by simp [zacn (show a < i from h.1), zacn (show b < i from h.2.1), zacn (show c < i from h.2.2)])
theorem zad8 (gs : List Gt) : (gvs gs).length = gs.length := List.length_map ..
theorem zakm {H : Hp} {gs : List Gt} {xs : List V} (h : Gs H gs xs) : GL H xs (gvs gs) := ⟨by rw [zad8]; exact h.len, fun i g e => by
 rw [gvs, List.getElem?_map] at e
 obtain ⟨g0, e0, rfl⟩ := Option.map_eq_some_iff.mp e
 obtain ⟨p, a, b⟩ := h.at_ i g0 e0
 exact ⟨_, a, p, rfl, b, g0.th⟩⟩
theorem zaf9 {gs : List Gt} (h : Oks gs) : GoodTo (gvs gs) (gvs gs).length := fun i g _ e => by
 rw [gvs, List.getElem?_map] at e
 obtain ⟨g0, e0, rfl⟩ := Option.map_eq_some_iff.mp e
 rw [zad8]
 exact zanp (h i g0 e0)
theorem GL.set {H : Hp} {xs : List V} {gs : List GV} {v : V} {g : GV} (h : GL H xs gs) (s : Nat) (a : GvAt H v g) : GL H (xs.set s v) (gs.set s g) := ⟨by rw [List.length_set, List.length_set]; exact h.len, fun i g' e => by
 rw [List.getElem?_set] at e ⊢
 by_cases es : s = i
 ·rw [if_pos es] at e ⊢
  by_cases hl : s < gs.length
  ·rw [if_pos hl] at e
   cases e
   rw [if_pos (by rw [h.len]; exact hl)]
   exact ⟨v, rfl, a⟩
  ·rw [if_neg hl] at e; cases e
 ·rw [if_neg es] at e ⊢
  exact h.at_ i g' e⟩
theorem zah9 {gs : List GV} {s j : Nat} {g : GV} (h : GoodTo gs s) (hj : s ≤ j) : GoodTo (gs.set j g) s := fun i g' hi e => by
 rw [List.getElem?_set, if_neg (by omega)] at e
 rw [List.length_set]
 exact h i g' hi e
theorem zanq {gs : List GV} {s : Nat} {g : GV} (hs : s < gs.length) (b : gvB (s : Int) (gs.length : Int) g = false) : BadAt (gs.set s g) s := ⟨g, by rw [List.getElem?_set, if_pos rfl, if_pos hs], by rw [List.length_set]; exact b⟩
theorem zalx {gs : List GV} {s j : Nat} {g : GV} (h : BadAt gs s) (hj : s < j) : BadAt (gs.set j g) s := by
 obtain ⟨g0, a, b⟩ := h
 exact ⟨g0, by rw [List.getElem?_set, if_neg (by omega)]; exact a, by rw [List.length_set]; exact b⟩
theorem zal8 {xs : List V} {s : Nat} (h : s ≤ xs.length) : cutV xs none (some (s : Int)) = xs.take s := by
 unfold cutV
 have e1 : HT.sIx xs.length 0 none = 0 := rfl
 have e2 : HT.sIx xs.length xs.length (some (s : Int)) = s := by simp only [HT.sIx]; split <;> omega
 rw [e1, e2]; simp
theorem zaia {xs : List V} {s : Nat} (h : s ≤ xs.length) : cutV xs (some (s : Int)) none = xs.drop s := by
 unfold cutV
 have e1 : HT.sIx xs.length xs.length none = xs.length := rfl
 have e2 : HT.sIx xs.length 0 (some (s : Int)) = s := by simp only [HT.sIx]; split <;> omega
 rw [e1, e2, List.take_of_length_le (by rw [List.length_drop]; omega)]
theorem zanr {xs : List V} {s : Nat} {v : V} {a b : Int} (h : s < xs.length) (ha : a = (s : Int)) (hb : b = (s : Int) + 1) : cutV xs none (some a) ++ [v] ++ cutV xs (some b) none = xs.set s v := by
 have e : ((s : Int) + 1) = ((s + 1 : Nat) : Int) := rfl
 rw [ha, hb, e, zal8 (by omega), zaia (by omega), List.set_eq_take_append_cons_drop, if_pos h]
 simp
theorem zans {xs : List V} {s : Nat} {v : V} {a : Int} (h : s ≤ xs.length) (ha : a = (s : Int)) : cutV xs none (some a) ++ [v] ++ cutV xs (some a) none = xs.take s ++ [v] ++ xs.drop s := by
 rw [ha, zal8 h, zaia h]
theorem zant {n j : Nat} (h : j < n) : ixN n (j : Int) = some j := by
 unfold ixN
 split <;> first | omega | (simp; omega) | simp_all
theorem zae0 {m : Int} (h : 0 ≤ m) : ∃ n : Nat, m = (n : Int) := ⟨m.toNat, by omega⟩
theorem zanu {n : Nat} {m : Int} (h0 : 0 ≤ m) (h1 : m < 5) : ∃ v, atI [V.int (n : Int), .int (-1), .non, .bl true, .int ((n : Int) + 7)] m = some v ∧ Th v ∧ belB v (n : Int) = false := by
 have : m = 0 ∨ m = 1 ∨ m = 2 ∨ m = 3 ∨ m = 4 := by omega
 rcases this with rfl | rfl | rfl | rfl | rfl
 ·exact ⟨_, rfl, .int _, zano _⟩
 ·exact ⟨_, rfl, .int _, rfl⟩
 ·exact ⟨_, rfl, .non, rfl⟩
 ·exact ⟨_, rfl, .bl _, rfl⟩
 ·refine ⟨_, rfl, .int _, ?_⟩
  show (decide (0 ≤ (n : Int) + 7) && decide ((n : Int) + 7 < (n : Int))) = false
  rw [decide_eq_false (show ¬ (n : Int) + 7 < n by omega), Bool.and_false]
theorem zad9 {os : List Nat} {n : Nat} (h : ∀ o ∈ os, o < n) : (∀ y ∈ os.map nV, belB y (n : Int) = true) ∧ ∀ y ∈ os.map nV, Th y := ⟨fun y hy => by
 obtain ⟨o, ho, rfl⟩ := List.mem_map.mp hy
 exact zacn (h o ho), fun y hy => by
 obtain ⟨o, ho, rfl⟩ := List.mem_map.mp hy
 exact .int _⟩
theorem zanv {H : Hp} {p r : Addr} {l : List Nat} (n : Nat) (h1 : H p = some (.tup (l.map nV))) (h2 : H r = some (.tup (l.map nV))) (hl : l.length ≤ 300) : EqvS (n + 2) H (.ref p) (.ref r) := ⟨.inr (.inl ⟨p, r, _, _, rfl, rfl, h1, h2, zakj l n H, by rw [List.length_map]; exact hl⟩)⟩
theorem zapl {H : Hp} {n : Nat} {g : Gt} : Paired (Eqv (n + 1) H) g.vs g.vs := by
 cases g <;> simp only [Gt.vs] <;> repeat first | exact Paired.nil | refine Paired.cons (.inl ⟨.inr _, rfl, rfl⟩) ?_ | refine Paired.cons (.inl ⟨.inl _, rfl, rfl⟩) ?_
theorem zae1 {H : Hp} {n : Nat} : ∀ {xs : List V}, (∀ x ∈ xs, Eqv n H x x) → Paired (Eqv n H) xs xs
 | [], _ => .nil
 | x :: xs, h => .cons (h x (List.mem_cons_self ..)) (zae1 fun y hy => h y (List.mem_cons_of_mem _ hy))
theorem zal9 {H : Hp} {p r : Addr} {gs : List Gt} {xs : List V} (h : Gs H gs xs) (h1 : H p = some (.tup xs)) (h2 : H r = some (.tup xs)) (hl : gs.length ≤ 300) : EqvS 4 H (.ref p) (.ref r) :=
 ⟨.inr (.inl ⟨p, r, _, _, rfl, rfl, h1, h2, zae1 fun x hx => by
  obtain ⟨i, hi⟩ := List.mem_iff_getElem?.mp hx
  have hl : i < gs.length := by rw [← h.len]; exact (List.getElem?_eq_some_iff.mp hi).1
  obtain ⟨q, e, b⟩ := h.at_ i _ (List.getElem?_eq_getElem hl)
  rw [hi] at e
  cases e
  exact .inr (.inl ⟨q, q, _, _, rfl, rfl, b, b, zapl, by have := (gs[i]).th.2; omega⟩), by rw [h.len]; exact hl⟩)⟩
theorem zama {kd : SK} {H : Hp} {gl ol : Addr} {xs : List V} {gs : List Gt} {os : List Nat} (g : SqX kd H gl xs) (o : SqX kd H ol (os.map nV)) (gg : Gs H gs xs) (hos : ∀ o ∈ os, o < gs.length) (l : gs.length ≤ 100) (l4 : os.length ≤ 100) : NIn kd H gl ol xs (os.map nV) (gvs gs) :=
 ⟨g, o, zakm gg, (zad9 hos).2, by rw [zad8]; omega, by rw [List.length_map]; omega⟩
theorem zakn {gs : List Gt} {os : List Nat} (h : ∀ o ∈ os, o < gs.length) : ∀ y ∈ os.map nV, belB y ((gvs gs).length : Int) = true := by rw [zad8]; exact (zad9 h).1
theorem zae2 {H : Hp} {p r : Addr} {xs ys : List V} (h : H p = some (.tup xs)) (g : H r = some (.lst ys)) : p ≠ r := fun e => by subst e; rw [h] at g; cases g
theorem zako {H : Hp} {p r C dx : Addr} {fs : List (Str × V)} {ys : List V} (h : H p = some (.ins C dx fs)) (g : H r = some (.lst ys)) : p ≠ r := fun e => by subst e; rw [h] at g; cases g
structure BG (H : Hp) (zs : List V) (s : Nat) : Prop where
 ex : ∃ hs : List GV, GL H zs hs ∧ GoodTo hs s ∧ BadAt hs s ∧ hs.length ≤ 100
theorem BG.ch {H H' : Hp} {zs : List V} {s : Nat} (h : BG H zs s) (c : Ch [] H H') : BG H' zs s := let ⟨hs, a, b⟩ := h.ex; ⟨⟨hs, a.ch c, b⟩⟩
theorem BG.one {H : Hp} {gs : List Gt} {xs : List V} {v : V} {i n : Int} {s : Nat} (gg : Gs H gs xs) (ok : Oks gs) (l : gs.length ≤ 100) (ov : OddAt H i n v) (hi : i = (s : Int)) (hn : n = (xs.length : Int)) (hs : s < xs.length) : BG H (xs.set s v) s := by
 obtain ⟨g, a, b⟩ := ov.ex
 have e : xs.length = (gvs gs).length := (zakm gg).len
 refine ⟨⟨(gvs gs).set s g, (zakm gg).set s a, zah9 (fun j g' hj e' => zaf9 ok j g' (by omega) e') (Nat.le_refl _), zanq (by omega) ?_, by rw [List.length_set, zad8]; exact l⟩⟩
 rw [← e, ← hi, ← hn]; exact b
theorem BG.two {H : Hp} {zs : List V} {v : V} {i n : Int} {s j : Nat} (h : BG H zs s) (ov : OddAt H i n v) (hj : s < j) : BG H (zs.set j v) s := by
 obtain ⟨hs, a, b, c, l⟩ := h.ex
 obtain ⟨g, ga, _⟩ := ov.ex
 exact ⟨⟨hs.set j g, a.set j ga, zah9 b (by omega), zalx c hj, by rw [List.length_set]; exact l⟩⟩
theorem BG.put {H : Hp} {zs ys us : List V} {s : Nat} {p : Addr} (h : BG H zs s) (hp : H p = some (.lst ys)) : BG (upd H p (.lst us)) zs s := by
 obtain ⟨hs, a, b⟩ := h.ex
 refine ⟨⟨hs, ⟨a.len, fun i g e => ?_⟩, b⟩⟩
 obtain ⟨v, e1, e2⟩ := a.at_ i g e
 refine ⟨v, e1, ?_⟩
 cases g with
 | tup xs =>
  obtain ⟨q, e3, e4, e5⟩ := e2
  exact ⟨q, e3, zacc (zae2 e4 hp) e4, e5⟩
 | oth =>
  rcases e2 with e2 | ⟨q, ls, e3, e4⟩
  ·exact .inl e2
  ·by_cases e : q = p
   ·subst e; exact .inr ⟨q, us, e3, zaak⟩
   ·exact .inr ⟨q, ls, e3, zacc e e4⟩
theorem BG.nbad {H : Hp} {zs ys : List V} {s : Nat} {gl ol : Addr} {r : Int} (h : BG H zs s) (g : H gl = some (.lst zs)) (o : H ol = some (.lst ys)) (t : ∀ y ∈ ys, Th y) (m : ys.length ≤ 1000) (e : r = (s : Int)) : NBad H gl ol r := by
 obtain ⟨hs, a, b, c, l⟩ := h.ex
 exact ⟨⟨zs, ys, hs, ⟨g, o, a, t, by omega, m⟩, .inl ⟨s, e, b, c⟩⟩⟩
theorem zaly {H : Hp} {gl ol : Addr} {gs : List Gt} {xs ys : List V} {v : V} (gg : Gs H gs xs) (ok : Oks gs) (l : gs.length ≤ 100) (g : H gl = some (.lst xs)) (o : H ol = some (.lst ys)) (t : ∀ y ∈ ys, Th y) (m : ys.length ≤ 1000) (hv : v ∈ ys) (hb : belB v (xs.length : Int) = false) : NBad H gl ol (-1) := by
 have e : xs.length = (gvs gs).length := (zakm gg).len
 exact ⟨⟨xs, ys, gvs gs, ⟨g, o, zakm gg, t, by rw [zad8]; omega, m⟩, .inr ⟨rfl, zaf9 ok, v, hv, by rw [← e]; exact hb⟩⟩⟩
theorem zaho {H : Hp} {i : Int} : EqvS 4 H (.int i) (.int i) := ⟨.inl ⟨.inl i, rfl, rfl⟩⟩
end

section
theorem Ch.own {H H' : Hp} {r : Addr} {o : HO} (c : Ch [] H H') (n : H r = none) : Ch [] H (upd H' r o) := fun p u hp hn => by rw [zaax (zaan hp n)]; exact c p u hp hn
theorem Ch.drop1 {H H1 H2 : Hp} {r : Addr} (c : Ch [] H H1) (n : H r = none) (d : Ch [r] H1 H2) : Ch [] H H2 := fun p u hp hn => d p u (c p u hp hn) (by simp only [List.mem_cons, List.not_mem_nil, or_false]; exact zaan hp n)
section
variable {P : Program} {w : World} {K : PySem.W.Frag} {mg : Str → Option Value} {base : Heap} {f : Addr} {fd : FuncData} {k : Nat}
theorem zahp : Nd "_law_net" := by decide +kernel
theorem zaga : Nd "_law_lists" := by decide +kernel
theorem zae3 : Nd "_law_odd" := by decide +kernel
theorem zacs : Nd "_law_refused" := by decide +kernel
theorem av31 : AF (defScope (top 31)) ["_law_script", "_law_at", "_law_m", "_law_gates", "_law_outs", "_law_handed", "_law_net_here", "_law_again", "_law_spot", "_law_odd_here", "_law_bad_gates", "_law_later", "_law_place", "_law_bad"] := ⟨by decide +kernel⟩
theorem gl31 : AG (defScope (top 31)) ["_law_next", "_law_net", "list", "Net", "_law_same", "tuple", "_law_lists", "len", "_law_odd", "_law_refused"] := ⟨by decide +kernel⟩
def spCase (K : PySem.W.Frag) : Sp := fun vs H Q _ => ∃ (a b : Addr) (ns : List Int) (c : Int), vs = [.ref a, .ref b] ∧ Scr K H a ns ∧ H b = some (.lst [.int c]) ∧ 0 ≤ c ∧ c < 2 ^ 58 ∧ ∀ c' H', Ch [b] H H' → H' b = some (.lst [.int c']) → c ≤ c' → c' ≤ c + 1002 → Q (.bl true) H'
theorem scCase : FnScope ["_law_script", "_law_at", "_law_m", "_law_gates", "_law_outs", "_law_handed", "_law_net_here", "_law_again", "_law_spot", "_law_odd_here", "_law_bad_gates", "_law_later", "_law_place", "_law_bad"] ["_law_script", "_law_at"] (defScope (top 31)) := ⟨rfl, rfl, rfl, by decide +kernel, rfl, by decide +kernel, by decide +kernel⟩
theorem zanw {C CT : Addr} (F : Fun K "_law_case" "_law_case" (top 31) f fd) (D_law_next : DefOk P w K mg base CX0 (k + 1) "_law_next" ["_law_script", "_law_at"] (spNext K)) (D_law_net : DefOk P w K mg base CX0 (k + 1) "_law_net" ["_law_script", "_law_at", "_law_ins", "_law_keeps", "_law_many"] (spLNet K)) (MkNet : MakeOk P w K mg base CX0 k C "Net" ["self", "gates", "outs"] (fun vs H Q _ => spNet C CT vs H Q E0)) (D_law_same : DefOk P w K mg base CX0 (k + 1) "_law_same" ["_law_found", "_law_due"] (spSame 4)) (D_law_lists : DefOk P w K mg base CX0 (k + 1) "_law_lists" ["_law_net_here", "_law_gates"] (spLists C)) (D_law_odd : DefOk P w K mg base CX0 (k + 1) "_law_odd" ["_law_m", "_law_gate", "_law_number", "_law_many"] spOdd) (D_law_refused : DefOk P w K mg base CX0 (k + 1) "_law_refused" ["_law_gates", "_law_outs"] spRef)
  (cl : Cls K C) (nG : NoAttr K C "gates") (nO : NoAttr K C "outs") (m_Net : mg "Net" = some (.ref C)) (z_list : mg "list" = none) (z_tuple : mg "tuple" = none) (z_len : mg "len" = none) : FnOk P w K mg base CX0 (k + 2) f fd ["_law_script", "_law_at"] (spCase K) := by
 have nd := scCase.nd
 refine F.ok scCase (fun vs H Q E h => by obtain ⟨a, b, ns, c, rfl, _⟩ := h; rfl) (fun cdv A outer s H vs Q E hr h => ?_)
 obtain ⟨a, b, ns, c, rfl, hS, hb, c0, c58, q⟩ := h
 have hrm := hr
 refine ⟨_, (Pr.h (zaaj (zaa0 (i := 2) nd rfl (av31.l 2 rfl) (zaap D_law_next hr (gl31.g 0 rfl) pass0 (zaaa (qv av31 0 rfl) (zaaa (qv av31 1 rfl) zaab zaae) zaae) zabj)) (zaaj (zafm (zaap D_law_net hr (gl31.g 1 rfl) pass0 (zaaa (qv av31 0 rfl) (zaaa (qv av31 1 rfl) (zaaa (zaao zabk (qv av31 2 rfl) zaad) (zaaa (zaao zabk (zaao zabs (qv av31 2 rfl) zaad) zaad) (zaaa (zaao zabk (zaao zabs (qv av31 2 rfl) zaad) zaad) zaab zabb) zabb) zabb) zaae) zaae) zahp) (zag2 rfl (zaa8 (zaay (i := 3) nd rfl (av31.l 3 rfl)) (zaa8 (zaay (i := 4) nd rfl (av31.l 4 rfl)) zacf)))) (zaaj (zaa0 (i := 5) nd rfl (av31.l 5 rfl) (zabd (zaaa (zabo zacg (gl31.g 2 rfl) z_list zab7 (zaaa (qv av31 3 rfl) zaab zaae) zab8 zab9) (zaaa (zabo zacg (gl31.g 2 rfl) z_list zab7 (zaaa (qv av31 4 rfl) zaab zaae) zab8 zab9) zaab zaa4) zaa4))) (zaaj (zaa0 (i := 6) nd rfl (av31.l 6 rfl) (zagp MkNet hrm (gl31.g 3 rfl) pass0 (zaaa (zaaz zaba (qv av31 5 rfl) zaad (fun _ _ => rfl)) (zaaa (zaaz zaba (qv av31 5 rfl) zaad (fun _ _ => rfl)) zaab zaaq) zaaq) zaki)) (zaaj (zaco (zaec PySem.F.plainAttrs_list PySem.F.slot_list_append PySem.F.type_list_append zach (zaaz zaba (qv av31 5 rfl) zaad (fun _ _ => rfl)) (zaaa zab4 zaab zaai))) (zaaj (zaco (zaec PySem.F.plainAttrs_list PySem.F.slot_list_append PySem.F.type_list_append zach (zaaz zaba (qv av31 5 rfl) zaad (fun _ _ => rfl)) (zaaa (zadl zadi zaad) zaab zabx))) (zaaj (zaa2 (zaca (zacj (zabq (zaa7 (zaap D_law_same hr (gl31.g 4 rfl) pass0 (zaaa (zadg (qv av31 6 rfl) rfl) (zaaa (zabo zabw (gl31.g 5 rfl) z_tuple zabl (zaaa (qv av31 3 rfl) zaab zaae) zabm zabn) zaab zaa4) zabu) zaa1))) (zab1 (zabq (zaa7 (zaap D_law_same hr (gl31.g 4 rfl) pass0 (zaaa (zadg (qv av31 6 rfl) rfl) (zaaa (zabo zabw (gl31.g 5 rfl) z_tuple zabl (zaaa (qv av31 4 rfl) zaab zaae) zabm zabn) zaab zaa4) zabu) zaa1)))))) (zaam (zaat zabt)) zaar) (zaaj (zaa0 (i := 7) nd rfl (av31.l 7 rfl) (zagp MkNet hrm (gl31.g 3 rfl) pass0 (zaaa (zadg (qv av31 6 rfl) rfl) (zaaa (zadg (qv av31 6 rfl) rfl) zaab zabu) zabu) zaki)) (zaaj (zaa2 (zaca (zacj (zabq (zaa7 (zaap D_law_same hr (gl31.g 4 rfl) pass0 (zaaa (zadg (qv av31 7 rfl) rfl) (zaaa (zabo zabw (gl31.g 5 rfl) z_tuple zabl (zaaa (qv av31 3 rfl) zaab zaae) zabm zabn) zaab zaa4) zabu) zaa1))) (zab1 (zabq (zaa7 (zaap D_law_lists hr (gl31.g 6 rfl) pass0 (zaaa (qv av31 7 rfl) (zaaa (qv av31 3 rfl) zaab zaae) zaae) zaga)))))) (zaam (zaat zabt)) zaar) (zaaj (zaa0 (i := 2) nd rfl (av31.l 2 rfl) (zaap D_law_next hr (gl31.g 0 rfl) pass0 (zaaa (qv av31 0 rfl) (zaaa (qv av31 1 rfl) zaab zaae) zaae) zabj)) (zab6 (zaa2 (zaau zaid (zaac zaal (gl31.g 7 rfl) z_len PySem.boot_len (zaaa (qv av31 3 rfl) zaab zaae) zaa5 zaa6) zaad (nomark _)) (zaaj (zaa0 (i := 8) nd rfl (av31.l 8 rfl) (zaao zabk (qv av31 2 rfl) (zaac zaal (gl31.g 7 rfl) z_len PySem.boot_len (zaaa (qv av31 3 rfl) zaab zaae) zaa5 zaa6))) (zaaj (zaa0 (i := 9) nd rfl (av31.l 9 rfl) (zaap D_law_odd hr (gl31.g 8 rfl) pass0 (zaaa (zaao zabs (qv av31 2 rfl) zaad) (zaaa (zaaz zaba (qv av31 3 rfl) (qv av31 8 rfl) (fun _ _ => rfl)) (zaaa (qv av31 8 rfl) (zaaa (zaac zaal (gl31.g 7 rfl) z_len PySem.boot_len (zaaa (qv av31 3 rfl) zaab zaae) zaa5 zaa6) zaab zaa4) zaae) zaaq) zabb) zae3)) (zaaj (zaa0 (i := 10) nd rfl (av31.l 10 rfl) (zaao zac7 (zaao zac7 (zabc zaff (qv av31 3 rfl) zabh (zabi (qv av31 8 rfl))) (zabd (zaaa (qv av31 9 rfl) zaab zaae))) (zabc zaff (qv av31 3 rfl) (zabi (zaao zacw (qv av31 8 rfl) zaad)) zabh))) (zaaj (zaa2 (zabq (zaa7 (zaap D_law_same hr (gl31.g 4 rfl) pass0 (zaaa (zaap D_law_refused hr (gl31.g 9 rfl) pass0 (zaaa (qv av31 10 rfl) (zaaa (qv av31 4 rfl) zaab zaae) zaae) zacs) (zaaa (qv av31 8 rfl) zaab zaae) zaa4) zaa1))) (zaam (zaat zabt)) zaar) (zaaj (zaa0 (i := 11) nd rfl (av31.l 11 rfl) (zaao zacw (qv av31 8 rfl) (zaao zabk (zaao zabs (qv av31 2 rfl) zaad) (zaao zaeh (zaac zaal (gl31.g 7 rfl) z_len PySem.boot_len (zaaa (qv av31 3 rfl) zaab zaae) zaa5 zaa6) (qv av31 8 rfl))))) (zab6 (zaa2 (zaau zaid (qv av31 11 rfl) (qv av31 8 rfl) (nomark _)) (zaam (zafm (zaap D_law_odd hr (gl31.g 8 rfl) pass0 (zaaa (zaao zabs (qv av31 2 rfl) zaad) (zaaa (zaaz zaba (qv av31 3 rfl) (qv av31 11 rfl) (fun _ _ => rfl)) (zaaa (qv av31 11 rfl) (zaaa (zaac zaal (gl31.g 7 rfl) z_len PySem.boot_len (zaaa (qv av31 3 rfl) zaab zaae) zaa5 zaa6) zaab zaa4) zaae) zaaq) zabb) zae3) (zag3 (qv av31 10 rfl) (qv av31 11 rfl) zafd))) zaar) (zaam (zaa2 (zabq (zaa7 (zaap D_law_same hr (gl31.g 4 rfl) pass0 (zaaa (zaap D_law_refused hr (gl31.g 9 rfl) pass0 (zaaa (qv av31 10 rfl) (zaaa (zaao zac7 (qv av31 4 rfl) (zabd (zaaa (zadl zadi zaad) zaab zabx))) zaab zabb) zaae) zacs) (zaaa (qv av31 8 rfl) zaab zaae) zaa4) zaa1))) (zaam (zaat zabt)) zaar)))))))) zaar) (zaaj (zaa0 (i := 12) nd rfl (av31.l 12 rfl) (zaao zabk (zaao zabs (qv av31 2 rfl) zaad) (zaao zacw (zaac zaal (gl31.g 7 rfl) z_len PySem.boot_len (zaaa (qv av31 4 rfl) zaab zaae) zaa5 zaa6) zaad))) (zaaj (zaa0 (i := 13) nd rfl (av31.l 13 rfl) (zaao zac7 (zaao zac7 (zabc zaff (qv av31 4 rfl) zabh (zabi (qv av31 12 rfl))) (zabd (zaaa (zaaz zaba (zabd (zaaa (zaac zaal (gl31.g 7 rfl) z_len PySem.boot_len (zaaa (qv av31 3 rfl) zaab zaae) zaa5 zaa6) (zaaa (zadl zadi zaad) (zaaa zab4 (zaaa zabt (zaaa (zaao zacw (zaac zaal (gl31.g 7 rfl) z_len PySem.boot_len (zaaa (qv av31 3 rfl) zaab zaae) zaa5 zaa6) zaad) zaab zabb) zaai) zaai) zabx) zaa4)) (zaao zabk (zaao zabs (qv av31 2 rfl) zaad) zaad) (fun _ _ => rfl)) zaab zaaq))) (zabc zaff (qv av31 4 rfl) (zabi (qv av31 12 rfl)) zabh))) (zaam (zaat (zaap D_law_same hr (gl31.g 4 rfl) pass0 (zaaa (zaap D_law_refused hr (gl31.g 9 rfl) pass0 (zaaa (qv av31 3 rfl) (zaaa (qv av31 13 rfl) zaab zaae) zaae) zacs) (zaaa (zadl zadi zaad) zaab zabx) zaa4) zaa1))))))))))))))))), ?_⟩
 (try dsimp only [cxOf])
 have bS : Box (Scr K H a ns) := ⟨hS⟩
 clear hS
 walk_at "rd"
 refine ⟨bS.h, hb, c0, by omega, fun m H1 m0 m1 c1 b1 => ?_⟩
 obtain ⟨j1, e1⟩ := zae0 (show 0 ≤ m % 5 by omega)
 obtain ⟨j2, e2⟩ := zae0 (show 0 ≤ m / 5 % 4 by omega)
 obtain ⟨j3, e3⟩ := zae0 (show 0 ≤ m / 20 % 17 by omega)
 have bS1 : Box (Scr K H1 a ns) := ⟨bS.h.ch hb c1⟩
 have bq : Box (∀ (c' : Int) (H' : Hp), Ch [b] H H' → H' b = some (HO.lst [V.int c']) → c ≤ c' → c' ≤ c + 1002 → Q (V.bl true) H') := ⟨q⟩
 clear q
 walk_at "rd"
 refine ⟨bS1.h, b1, by omega, by omega, fun R gl ol gs xs os H2 n2 gR l48 go hos l4 fg fo => ?_⟩
 have c12 : Ch [b] H H2 := c1.trans n2.ch
 have bS2 : Box (Scr K H2 a ns) := ⟨bS1.h.ch b1 n2.ch⟩
 have ggl := n2.gl
 have gg2 := n2.gg
 have ok2 := n2.ok
 have hx := gg2.len
 obtain ⟨c', b2, c'1, c'2⟩ := n2.at_
 have nbg : gl ≠ b := (zaan b1 fg).symm
 have nbo : ol ≠ b := (zaan b1 fo).symm
 clear b1 bS1 bS c1 n2 e1 e2 e3 hb fg fo
 walk_at "rd"
 rename_i h1 n1 h2 n2 hd n3 x dx nx ndx nex
 have ch0 : Ch [] H2 (upd (upd (upd H2 h1 (.lst xs)) h2 (.lst (os.map nV))) hd (.lst [.ref h1, .ref h2])) := ((Ch.new n1 _).trans (Ch.new n2 _)).trans (Ch.new n3 _)
 have z1 : (upd (upd (upd H2 h1 (.lst xs)) h2 (.lst (os.map nV))) hd (.lst [.ref h1, .ref h2])) h1 = some (.lst xs) := zaa3 n3 (zaa3 n2 zaak)
 have z2 : (upd (upd (upd H2 h1 (.lst xs)) h2 (.lst (os.map nV))) hd (.lst [.ref h1, .ref h2])) h2 = some (.lst (os.map nV)) := zaa3 n3 zaak
 have z3 : (upd (upd (upd H2 h1 (.lst xs)) h2 (.lst (os.map nV))) hd (.lst [.ref h1, .ref h2])) hd = some (.lst [.ref h1, .ref h2]) := zaak
 have f1 := n1
 have f2 := freeN n1 n2
 have ne12 : h2 ≠ h1 := fun e => by subst e; rw [zaak] at n2; cases n2
 have ne13 : hd ≠ h1 := fun e => by subst e; rw [zaa3 n2 zaak] at n3; cases n3
 have ci := (Ch.new (W := []) ndx (.own x)).trans (Ch.new (by rw [zaax nex.symm]; exact nx) (.ins C dx []))
 have fx : H2 x = none := chFree ch0 nx
 have cj := ch0.trans ci
 have w1 := ci.get z1 (by simp)
 have w2 := ci.get z2 (by simp)
 have w3 := ci.get z3 (by simp)
 refine ⟨zama (kd := .list) w1 w2 (gg2.tu (Tu.same cj)) hos (by omega) (by omega), .inl ⟨zaf9 ok2, zakn hos, fun gp op H4 c4 x4 gp4 op4 => ?_⟩⟩
 have ck : Ch [] H2 H4 := Ch.drop1 cj fx c4
 have y1 := c4.get w1 (by simpa using zaan z1 nx)
 have y2 := c4.get w2 (by simpa using zaan z2 nx)
 have y3 := c4.get w3 (by simpa using zaan z3 nx)
 clear cj w1 w2 w3 z1 z2 z3 ci c4 n1 n2 n3 nx ndx nex ch0
 have b4 := ck.get b2 (by simp)
 have gl4 := ck.get ggl (by simp)
 have ol4 := ck.get go (by simp)
 have q1 : x ≠ h1 := zako x4 y1
 have q2 : x ≠ h2 := zako x4 y2
 have q3 : gp ≠ h1 := zae2 gp4 y1
 have q4 : gp ≠ h2 := zae2 gp4 y2
 have q5 : op ≠ h1 := zae2 op4 y1
 have q6 : op ≠ h2 := zae2 op4 y2
 have q7 : gl ≠ h1 := zaan ggl f1
 have q8 : gl ≠ h2 := zaan ggl f2
 have q9 : ol ≠ h1 := zaan go f1
 have q0 : ol ≠ h2 := zaan go f2
 have qb1 : b ≠ h1 := zaan b2 f1
 have qb2 : b ≠ h2 := zaan b2 f2
 have lk1 := zacq gp op
 have lk2 := zagq gp op
 walk_at "rd"
 rename_i l nl
 have c5 : Ch [] H2 (upd (upd H4 h1 (.lst (xs ++ [.non]))) h2 (.lst (os.map nV ++ [(fun i => V.int (-i)) 1]))) := Ch.own (Ch.own ck f1) f2
 have gp5 : (upd (upd H4 h1 (.lst (xs ++ [.non]))) h2 (.lst (os.map nV ++ [(fun i => V.int (-i)) 1]))) gp = _ := zacc q4 (zacc q3 gp4)
 have op5 : (upd (upd H4 h1 (.lst (xs ++ [.non]))) h2 (.lst (os.map nV ++ [(fun i => V.int (-i)) 1]))) op = _ := zacc q6 (zacc q5 op4)
 have x5 : (upd (upd H4 h1 (.lst (xs ++ [.non]))) h2 (.lst (os.map nV ++ [(fun i => V.int (-i)) 1]))) x = _ := zacc q2 (zacc q1 x4)
 have c5' := c5.trans (Ch.new nl (.tup xs))
 refine ⟨zal9 (gg2.tu (Tu.same c5')) (zaa3 nl gp5) zaak (by omega), fun H6 c6 => ?_⟩
 have d6 : Ch [] H2 H6 := c5'.trans c6
 have gp6 := c6.get (zaa3 nl gp5) (by simp)
 have op6 := c6.get (zaa3 nl op5) (by simp)
 have x6 := c6.get (zaa3 nl x5) (by simp)
 have gl6 := d6.get ggl (by simp)
 have ol6 := d6.get go (by simp)
 clear c5 gp5 op5 x5 c5' c6 nl q1 q2 q3 q4 q5 q6 q7 q8 q9 q0 qb1 qb2 y1 y2 y3 b4 gl4 ol4 gp4 op4 x4 ck f1 f2 ne12 ne13 fx
 walk_at "rd"
 rename_i l2 nl2
 have c7 := d6.trans (Ch.new nl2 (.tup (os.map nV)))
 refine ⟨zanv 2 (zaa3 nl2 op6) zaak (by omega), fun H7 k7 => ?_⟩
 have d7 : Ch [] H2 H7 := c7.trans k7
 have gp7 := k7.get (zaa3 nl2 gp6) (by simp)
 have op7 := k7.get (zaa3 nl2 op6) (by simp)
 have x7 := k7.get (zaa3 nl2 x6) (by simp)
 have gl7 := d7.get ggl (by simp)
 have ol7 := d7.get go (by simp)
 clear c7 k7 nl2 gp6 op6 x6 gl6 ol6 d6
 walk_at "rd"
 rename_i y dy ny ndy ney
 have ci := (Ch.new (W := []) ndy (.own y)).trans (Ch.new (by rw [zaax ney.symm]; exact ny) (.ins C dy []))
 have fy : H2 y = none := chFree d7 ny
 have cj := d7.trans ci
 refine ⟨zama (kd := .tuple) (ci.get gp7 (by simp)) (ci.get op7 (by simp)) (gg2.tu (Tu.same cj)) hos (by omega) (by omega), .inl ⟨zaf9 ok2, zakn hos, fun gp' op' H8 c8 x8 gp8 op8 => ?_⟩⟩
 have d8 : Ch [] H2 H8 := Ch.drop1 cj fy c8
 have gl8 := d8.get ggl (by simp)
 have ol8 := d8.get go (by simp)
 have lk1 := zacq gp' op'
 clear ci cj c8 gp7 op7 x7 gl7 ol7 ny ndy ney fy d7 lk2
 walk_at "rd"
 rename_i l3 nl3
 have c9 := d8.trans (Ch.new nl3 (.tup xs))
 refine ⟨zal9 (gg2.tu (Tu.same c9)) (zaa3 nl3 gp8) zaak (by omega), fun H9 k9 => ?_⟩
 have d9 : Ch [] H2 H9 := c9.trans k9
 have nat : NetAt C H9 y gp' op' gs xs os := ⟨⟨dy, k9.get (zaa3 nl3 x8) (by simp)⟩, k9.get (zaa3 nl3 gp8) (by simp), gg2.tu (Tu.same d9), k9.get (zaa3 nl3 op8) (by simp)⟩
 have gl9 := d9.get ggl (by simp)
 have bn : Box (NetAt C H9 y gp' op' gs xs os) := ⟨nat⟩
 clear c9 k9 nl3 gp8 op8 x8 gl8 ol8 d8 lk1 nat
 walk_at "rd"
 refine ⟨bn.h, gl9, by omega, fun Ha ka => ?_⟩
 have da : Ch [] H2 Ha := d9.trans ka
 have gla := da.get ggl (by simp)
 have ola := da.get go (by simp)
 have ba := da.get b2 (by simp)
 clear bn d9 ka gl9
 walk_at "rd"
 refine ⟨bS2.h.same da, ba, by omega, by omega, fun m2 Hb m20 m21 cb bb => ?_⟩
 have db : Ch [b] H Hb := (c12.trans da.wk).trans cb
 have ggb := (gg2.tu (Tu.same da)).tu (Tu.lst cb ba)
 have glb := cb.get gla (by simpa using nbg)
 have olb := cb.get ola (by simpa using nbo)
 have bdb : Box (Ch [b] H Hb) := ⟨db⟩
 have bx : Box (Hb b = some (.lst [.int (c' + 1)])) := ⟨bb⟩
 clear bS2 da ba cb gla ola c12 b2 ggl go gg2 gR nbg nbo db bb
 walk_at "rd"
 refine zac9 (fun σ H' => ∃ x8 x9 x10 x11, σ = [some (.ref a), some (.ref b), some (.int m2), some (.ref gl), some (.ref ol), some (.ref hd), some (.ref x), some (.ref y), x8, x9, x10, x11, none, none] ∧ Ch [] Hb H') ?_ ?_
 ·walk_at "rd"
  refine ite2 (fun hc => ?_) (fun hc => ?_)
  ·have n0 : 0 < xs.length := by simp at hc; omega
   obtain ⟨s, es⟩ := zae0 (show 0 ≤ m2 % (xs.length : Int) by exact Int.emod_nonneg _ (by omega))
   have hs : s < xs.length := by have := Int.emod_lt_of_pos m2 (show (0 : Int) < (xs.length : Int) by omega); omega
   obtain ⟨g, hgs⟩ : ∃ g, gs[s]? = some g := ⟨_, List.getElem?_eq_getElem (by omega)⟩
   obtain ⟨p, exp, hp⟩ := ggb.at_ s g hgs
   have hat : atI xs (m2 % (xs.length : Int)) = some (.ref p) := by rw [es]; exact zadf exp
   clear hgs exp hc
   walk_at "rd"
   rename_i v Hd cd ov p1 n1 p2 n2
   have lb1 := zacb xs none (some (m2 % (xs.length : Int)))
   have lb2 := zacb xs (some (m2 % (xs.length : Int) + 1)) none
   refine ⟨by rw [sizeLine_eq, List.length_singleton]; omega, fun p3 n3 => ?_⟩
   walk_at "rd"
   rename_i p4 n4 p5 n5
   have esc := zanr (v := v) (a := m2 % (xs.length : Int)) hs es (congrArg (· + 1) es)
   have ce := (((((Ch.new n1 (.lst (cutV xs none (some (m2 % (xs.length : Int)))))).trans (Ch.new n2 (.lst [v]))).trans (Ch.new n3 (.lst (cutV xs none (some (m2 % (xs.length : Int))) ++ [v])))).trans (Ch.new n4 (.lst (cutV xs (some (m2 % (xs.length : Int) + 1)) none)))).trans (Ch.new n5 (.lst (cutV xs none (some (m2 % (xs.length : Int))) ++ [v] ++ cutV xs (some (m2 % (xs.length : Int) + 1)) none))) : Ch [] Hd _)
   have cf := cd.trans ce
   have bg := BG.one (ggb.tu (Tu.same cf)) ok2 (by omega) (ov.ch ce) es rfl hs
   rw [← esc] at bg
   refine ⟨BG.nbad bg zaak (cf.get olb (by simp)) (zad9 hos).2 (by rw [List.length_map]; omega) es, fun He ke => ?_⟩
   have g5 := ke.get (zaak (H := upd (upd (upd (upd Hd p1 (.lst (cutV xs none (some (m2 % (xs.length : Int)))))) p2 (.lst [v])) p3 (.lst (cutV xs none (some (m2 % (xs.length : Int))) ++ [v]))) p4 (.lst (cutV xs (some (m2 % (xs.length : Int) + 1)) none))) (a := p5) (o := .lst (cutV xs none (some (m2 % (xs.length : Int))) ++ [v] ++ cutV xs (some (m2 % (xs.length : Int) + 1)) none))) (by simp)
   have bge := bg.ch ke
   rw [esc] at g5 bge
   have de := cf.trans ke
   have f5 : Hb p5 = none := chFree (((((cd.trans (Ch.new n1 _)).trans (Ch.new n2 _)).trans (Ch.new n3 _)).trans (Ch.new n4 _))) n5
   clear esc ce cf bg ke n1 n2 n3 n4 n5 cd ov lb1 lb2
   have gle := de.get glb (by simp)
   have ole := de.get olb (by simp)
   walk_at "rd"
   refine ⟨zaho, fun Hf kf => ?_⟩
   have g6 := kf.get g5 (by simp)
   have bgf := bge.ch kf
   have df := de.trans kf
   have glf := kf.get gle (by simp)
   have olf := kf.get ole (by simp)
   have pos : 0 < (xs.length : Int) - m2 % (xs.length : Int) := by omega
   have hp6 := df.get hp (by simp)
   have bf5 : Box (Hb p5 = none) := ⟨f5⟩
   clear g5 bge de kf gle ole f5
   obtain ⟨t, et⟩ := zae0 (show 0 ≤ m2 % (xs.length : Int) + m2 / 7 % ((xs.length : Int) - m2 % (xs.length : Int)) by have := Int.emod_nonneg (m2 / 7) (show (xs.length : Int) - m2 % (xs.length : Int) ≠ 0 by omega); omega)
   have ht : t < xs.length := by have := Int.emod_lt_of_pos (m2 / 7) pos; omega
   walk_at "rd"
   refine zac9 (fun σ H' => ∃ zs, σ = [some (.ref a), some (.ref b), some (.int m2), some (.ref gl), some (.ref ol), some (.ref hd), some (.ref x), some (.ref y), some (.int (m2 % (xs.length : Int))), some v, some (.ref p5), some (.int (m2 % (xs.length : Int) + m2 / 7 % ((xs.length : Int) - m2 % (xs.length : Int)))), none, none] ∧ Ch [] Hb H' ∧ H' p5 = some (.lst zs) ∧ BG H' zs s) ?_ ?_
   ·obtain ⟨g', hg'⟩ : ∃ g, gs[t]? = some g := ⟨_, List.getElem?_eq_getElem (by omega)⟩
    obtain ⟨p', exp', hp'⟩ := ggb.at_ t g' hg'
    have hat' : atI xs (m2 % (xs.length : Int) + m2 / 7 % ((xs.length : Int) - m2 % (xs.length : Int))) = some (.ref p') := by rw [et]; exact zadf exp'
    have hpf := df.get hp' (by simp)
    clear hg' exp' hp'
    walk_at "rd"
    refine ite2 (fun hc => ?_) (fun hc => ?_)
    ·have hix : ixN (xs.set s v).length (m2 % (xs.length : Int) + m2 / 7 % ((xs.length : Int) - m2 % (xs.length : Int))) = some t := by rw [et]; exact zant (by rw [List.length_set]; exact ht)
     have hst : s < t := by simp at hc; omega
     walk_at "rd"
     rename_i u Hg kg ou
     refine ⟨Ch.own (df.trans kg) bf5.h, zaak, ?_⟩
     have := (BG.two (bgf.ch kg) ou hst).put (us := (xs.set s v).set t u) (kg.get g6 (by simp))
     exact this
    ·exact ⟨_, rfl, df, g6, bgf⟩
   ·rintro σ Hg ⟨zs, rfl, cg, g7, bgg⟩
    have glg := cg.get glb (by simp)
    have olg := cg.get olb (by simp)
    clear df g6 bgf glf olf hp6 hat
    walk_at "rd"
    rename_i p6 n6 p7 n7
    have ch := (Ch.new n6 (.lst [(fun i => V.int (-i)) 1])).trans (Ch.new n7 (.lst (os.map nV ++ [(fun i => V.int (-i)) 1])) : Ch [] _ _)
    refine ⟨BG.nbad (bgg.ch ch) (ch.get g7 (by simp)) zaak (fun z hz => by
     rcases List.mem_append.mp hz with hz | hz
     ·exact (zad9 hos).2 z hz
     ·rw [List.mem_singleton.mp hz]; exact .int _) (by rw [List.length_append, List.length_map, List.length_singleton]; omega) es, fun Hh kh => ?_⟩
    have dh := (cg.trans ch).trans kh
    clear cg ch kh n6 n7 bgg g7 glg olg
    walk_at "rd"
    refine ⟨zaho, fun Hi ki => ?_⟩
    have di := dh.trans ki
    clear dh ki
    walk_at "rd"
  ·exact ⟨_, _, _, _, rfl, Ch.refl _ _⟩
 ·rintro σ Hc ⟨x8, x9, x10, x11, rfl, cc⟩
  have glc := cc.get glb (by simp)
  have olc := cc.get olb (by simp)
  have ggc := ggb.tu (Tu.same cc)
  have dc := bdb.h.trans cc.wk
  have l5 : (os.map nV).length ≤ 4 := by rw [List.length_map]; exact l4
  obtain ⟨v, hv, tv, bv⟩ := zanu (n := xs.length) (m := m2 / 7 % 5) (by omega) (by omega)
  obtain ⟨t, et⟩ := zae0 (show 0 ≤ m2 / 50 % (((os.map nV).length : Int) + 1) from Int.emod_nonneg _ (by omega))
  have ht : t ≤ (os.map nV).length := by have := Int.emod_lt_of_pos (m2 / 50) (show (0 : Int) < ((os.map nV).length : Int) + 1 by omega); omega
  have bc := cc.get bx.h (by simp)
  clear glb olb ggb cc
  walk_at "rd"
  rename_i p1 n1 p2 n2 p3 n3
  have lb1 := zacb (os.map nV) none (some (m2 / 50 % (((os.map nV).length : Int) + 1)))
  have lb2 := zacb (os.map nV) (some (m2 / 50 % (((os.map nV).length : Int) + 1))) none
  refine ⟨by rw [sizeLine_eq, List.length_singleton]; omega, fun p4 n4 => ?_⟩
  walk_at "rd"
  rename_i p5 n5 p6 n6
  have eic := zans (v := v) (a := m2 / 50 % (((os.map nV).length : Int) + 1)) ht et
  have ce := ((((Ch.new n1 (.lst (cutV (os.map nV) none (some (m2 / 50 % (((os.map nV).length : Int) + 1)))))).trans (Ch.new n2 _)).trans (Ch.new n3 (.lst [v]))).trans (Ch.new n4 (.lst (cutV (os.map nV) none (some (m2 / 50 % (((os.map nV).length : Int) + 1))) ++ [v]))) : Ch [] Hc _)
  have cf := (ce.trans (Ch.new n5 (.lst (cutV (os.map nV) (some (m2 / 50 % (((os.map nV).length : Int) + 1))) none)))).trans (Ch.new n6 (.lst (cutV (os.map nV) none (some (m2 / 50 % (((os.map nV).length : Int) + 1))) ++ [v] ++ cutV (os.map nV) (some (m2 / 50 % (((os.map nV).length : Int) + 1))) none)))
  refine ⟨zaly (v := v) (ggc.tu (Tu.same cf)) ok2 (by omega) (cf.get glc (by simp)) zaak (fun z hz => ?_) ?_ ?_ bv, fun Hh kh => ?_⟩
  ·rw [eic] at hz
   rcases List.mem_append.mp hz with hz | hz
   ·rcases List.mem_append.mp hz with hz | hz
    ·exact (zad9 hos).2 z (List.mem_of_mem_take hz)
    ·rw [List.mem_singleton.mp hz]; exact tv
   ·exact (zad9 hos).2 z (List.mem_of_mem_drop hz)
  ·rw [List.length_append, List.length_append, List.length_singleton]; omega
  ·rw [eic]; simp
  ·have dh := (dc.trans cf.wk).trans kh.wk
   have bh := kh.get (cf.get bc (by simp)) (by simp)
   clear dc cf ce kh n1 n2 n3 n4 n5 n6 glc olc bc eic hv
   walk_at "rd"
   refine ⟨zaho, fun Hi ki => ?_⟩
   exact bq.h _ _ (dh.trans ki.wk) (ki.get bh (by simp)) (by omega) (by omega)
end
end

section
section
variable {P : Program} {w : World} {K : PySem.W.Frag} {mg : Str → Option Value} {base : Heap} {f : Addr} {fd : FuncData} {k : Nat}
theorem zagu : Nd "_law_case" := by decide +kernel
theorem av32 : AF (defScope (top 32)) ["_law_script", "_law_at", "_law_k"] := ⟨by decide +kernel⟩
theorem gl32 : AG (defScope (top 32)) ["range", "_law_next", "_law_case"] := ⟨by decide +kernel⟩
def spLaw (K : PySem.W.Frag) : Sp := fun vs H Q _ => ∃ (a : Addr) (ns : List Int), vs = [.ref a] ∧ Scr K H a ns ∧ ∀ H', Q (.bl true) H'
structure LC (K : PySem.W.Frag) (H : Hp) (a b : Addr) (ns : List Int) (i : Nat) : Prop where
 s : Scr K H a ns
 c : ∃ c : Int, H b = some (.lst [.int c]) ∧ 0 ≤ c ∧ c ≤ 1 + 1002 * i
theorem scLaw : FnScope ["_law_script", "_law_at", "_law_k"] ["_law_script"] (defScope (top 32)) := ⟨rfl, rfl, rfl, by decide +kernel, rfl, by decide +kernel, by decide +kernel⟩
theorem zapm (F : Fun K "law" "law" (top 32) f fd) (D_law_next : DefOk P w K mg base CX0 k "_law_next" ["_law_script", "_law_at"] (spNext K)) (D_law_case : DefOk P w K mg base CX0 k "_law_case" ["_law_script", "_law_at"] (spCase K)) (z_range : mg "range" = none) : FnOk P w K mg base CX0 (k + 1) f fd ["_law_script"] (spLaw K) := by
 have nd := scLaw.nd
 refine F.ok scLaw (fun vs H Q E h => by obtain ⟨a, ns, rfl, _⟩ := h; rfl) (fun cdv A outer s H vs Q E hr h => ?_)
 obtain ⟨a, ns, rfl, hS, q⟩ := h
 refine ⟨_, (Pr.h (zaaj (zaa0 (i := 1) nd rfl (av32.l 1 rfl) (zabd (zaaa zaad zaab zaai))) (zaaj (zab5 PassesOwn.never rfl (zacr (gl32.g 0 rfl) z_range (zaaa (zaao zacw zaad (zaao zabk (zaap D_law_next hr (gl32.g 1 rfl) pass0 (zaaa (qv av32 0 rfl) (zaaa (qv av32 1 rfl) zaab zaae) zaae) zabj) zaad)) zaab zabb)) (zaay (i := 2) nd rfl (av32.l 2 rfl)) (zaam (zaa2 (zabq (zaa7 (zaap D_law_case hr (gl32.g 2 rfl) pass0 (zaaa (qv av32 0 rfl) (zaaa (qv av32 1 rfl) zaab zaae) zaae) zagu))) (zaam (zaat zabt)) zaar))) (zaam (zaat zabt))))), ?_⟩
 (try dsimp only [cxOf])
 have bx : Box (Scr K H a ns) := ⟨hS⟩
 clear hS
 walk_at "rd"
 rename_i b hb
 have hS1 := bx.h.same (Ch.new hb (.lst [.int 0]))
 refine ⟨hS1, zaak, by omega, by omega, fun m H1 m0 m1 c1 b1 => ?_⟩
 obtain ⟨j, ej⟩ := zae0 (show 0 ≤ 1 + m % 4 by omega)
 have j4 : j ≤ 4 := by omega
 have hS2 := hS1.ch zaak c1
 have lc : LC K H1 a b ns 0 := ⟨hS2, 0 + 1, b1, by omega, by omega⟩
 have bl : Box (LC K H1 a b ns 0) := ⟨lc⟩
 clear hS1 bx hb c1 b1 hS2 lc
 walk_at "rd"
 refine zacd (fun i σ H' => ∃ u, σ = [some (.ref a), some (.ref b), u] ∧ LC K H' a b ns i) ⟨_, rfl, bl.h⟩ ?_ ?_
 ·rintro i σ H2 hi ⟨u, rfl, ⟨s2, c, b2, c0, c1⟩⟩
  have bs : Box (Scr K H2 a ns) := ⟨s2⟩
  have i4 : i < 4 := by omega
  clear s2 bl
  walk_at "rd"
  refine ⟨bs.h, b2, by omega, by omega, fun c' H3 k3 b3 l1 l2 => ?_⟩
  have lc : LC K H3 a b ns (i + 1) := ⟨bs.h.ch b2 k3, c', b3, by omega, by omega⟩
  clear bs b2 k3 b3
  walk_at "rd"
 ·rintro σ H2 ⟨u, rfl, _⟩
  walk_at "rd"
  exact q _
end
end

section
theorem zanx {K : PySem.W.Frag} {C CF : Addr} (e : PySem.W.mroIn K C (.ref CF) = some true) : XSub K C CF := by
 obtain ⟨cd, a, b⟩ := Option.bind_eq_some_iff.mp e
 unfold PySem.W.clsIn at a
 split at a
 case h_2 => cases a
 case h_1 cl di cd' sl ho =>
  cases a
  unfold XSub
  rw [ho]
  split at b
  ·cases b
  ·exact Option.some.inj b
theorem zapn {K : PySem.W.Frag} {C : Addr} {v : Value} (e : PySem.W.mroIn K C v = some true) : (PySem.W.clsIn K C).isSome = true := by
 obtain ⟨cd, a, b⟩ := Option.bind_eq_some_iff.mp e
 rw [a]
 rfl
theorem zapo {l : PySem.W.OpenLaw} {w : World} {K : PySem.W.Frag} {h : Heap} {mg : Str → Option Value} {fa CN : Addr} (X : K.In h) (G : h.Ns mainGlobals mg) (hfa : mg "law" = some (.ref fa))
  {f0 : Addr} {od0 an0 : Option Addr} {sl0 : Array (Option Value)} {oc0 kV0 dc0 pm0 cd0 ct0 : Value}
  {f1 : Addr} {od1 an1 : Option Addr} {sl1 : Array (Option Value)} {oc1 kV1 dc1 pm1 cd1 ct1 : Value}
  {f2 : Addr} {od2 an2 : Option Addr} {sl2 : Array (Option Value)} {oc2 kV2 dc2 pm2 cd2 ct2 : Value}
  {f3 : Addr} {od3 an3 : Option Addr} {sl3 : Array (Option Value)} {oc3 kV3 dc3 pm3 cd3 ct3 : Value}
  {f4 : Addr} {od4 an4 : Option Addr} {sl4 : Array (Option Value)} {oc4 kV4 dc4 pm4 cd4 ct4 : Value}
  {f5 : Addr} {od5 an5 : Option Addr} {sl5 : Array (Option Value)} {oc5 kV5 dc5 pm5 cd5 ct5 : Value}
  {f6 : Addr} {od6 an6 : Option Addr} {sl6 : Array (Option Value)} {oc6 kV6 dc6 pm6 cd6 ct6 : Value}
  {f7 : Addr} {od7 an7 : Option Addr} {sl7 : Array (Option Value)} {oc7 kV7 dc7 pm7 cd7 ct7 : Value}
  {f8 : Addr} {od8 an8 : Option Addr} {sl8 : Array (Option Value)} {oc8 kV8 dc8 pm8 cd8 ct8 : Value}
  {f9 : Addr} {od9 an9 : Option Addr} {sl9 : Array (Option Value)} {oc9 kV9 dc9 pm9 cd9 ct9 : Value}
  {f10 : Addr} {od10 an10 : Option Addr} {sl10 : Array (Option Value)} {oc10 kV10 dc10 pm10 cd10 ct10 : Value}
  {f11 : Addr} {od11 an11 : Option Addr} {sl11 : Array (Option Value)} {oc11 kV11 dc11 pm11 cd11 ct11 : Value}
  {f12 : Addr} {od12 an12 : Option Addr} {sl12 : Array (Option Value)} {oc12 kV12 dc12 pm12 cd12 ct12 : Value}
  {f13 : Addr} {od13 an13 : Option Addr} {sl13 : Array (Option Value)} {oc13 kV13 dc13 pm13 cd13 ct13 : Value}
  {f14 : Addr} {od14 an14 : Option Addr} {sl14 : Array (Option Value)} {oc14 kV14 dc14 pm14 cd14 ct14 : Value}
  {f15 : Addr} {od15 an15 : Option Addr} {sl15 : Array (Option Value)} {oc15 kV15 dc15 pm15 cd15 ct15 : Value}
  {f16 : Addr} {od16 an16 : Option Addr} {sl16 : Array (Option Value)} {oc16 kV16 dc16 pm16 cd16 ct16 : Value}
  {EFloorError ENoNet ENoText ENoSense ENoRow ENoTables ENoPack ENoFloor EOutOfFloor ENoRoom ENoWays ENoBits : Addr}
  (aN : PySem.W.nsIn K mainGlobals "Net" = some (some (.ref CN)))
  (eFloorError : PySem.W.nsIn K mainGlobals "FloorError" = some (some (.ref EFloorError)))
  (eNoNet : PySem.W.nsIn K mainGlobals "NoNet" = some (some (.ref ENoNet)))
  (eNoText : PySem.W.nsIn K mainGlobals "NoText" = some (some (.ref ENoText)))
  (eNoSense : PySem.W.nsIn K mainGlobals "NoSense" = some (some (.ref ENoSense)))
  (eNoRow : PySem.W.nsIn K mainGlobals "NoRow" = some (some (.ref ENoRow)))
  (eNoTables : PySem.W.nsIn K mainGlobals "NoTables" = some (some (.ref ENoTables)))
  (eNoPack : PySem.W.nsIn K mainGlobals "NoPack" = some (some (.ref ENoPack)))
  (eNoFloor : PySem.W.nsIn K mainGlobals "NoFloor" = some (some (.ref ENoFloor)))
  (eOutOfFloor : PySem.W.nsIn K mainGlobals "OutOfFloor" = some (some (.ref EOutOfFloor)))
  (eNoRoom : PySem.W.nsIn K mainGlobals "NoRoom" = some (some (.ref ENoRoom)))
  (eNoWays : PySem.W.nsIn K mainGlobals "NoWays" = some (some (.ref ENoWays)))
  (eNoBits : PySem.W.nsIn K mainGlobals "NoBits" = some (some (.ref ENoBits)))
  (a0 : PySem.W.nsIn K mainGlobals "is_whole" = some (some (.ref f0))) (l0 : K.lookup f0 = some ⟨oc0, od0, .func (PySem.W.fnOf "is_whole" "is_whole" (defArgs (top 14)) (defBody (top 14)) (defScope (top 14)) .none kV0 dc0 pm0 an0 cd0 ct0), sl0⟩) (c0 : PySem.W.codeIn K cd0 "is_whole" = true) (k0 : PySem.W.keepIn K (.ref f0) = true)
  (a1 : PySem.W.nsIn K mainGlobals "is_below" = some (some (.ref f1))) (l1 : K.lookup f1 = some ⟨oc1, od1, .func (PySem.W.fnOf "is_below" "is_below" (defArgs (top 15)) (defBody (top 15)) (defScope (top 15)) .none kV1 dc1 pm1 an1 cd1 ct1), sl1⟩) (c1 : PySem.W.codeIn K cd1 "is_below" = true) (k1 : PySem.W.keepIn K (.ref f1) = true)
  (a2 : PySem.W.nsIn K mainGlobals "is_gate" = some (some (.ref f2))) (l2 : K.lookup f2 = some ⟨oc2, od2, .func (PySem.W.fnOf "is_gate" "is_gate" (defArgs (top 18)) (defBody (top 18)) (defScope (top 18)) .none kV2 dc2 pm2 an2 cd2 ct2), sl2⟩) (c2 : PySem.W.codeIn K cd2 "is_gate" = true) (k2 : PySem.W.keepIn K (.ref f2) = true)
  (a3 : PySem.W.nsIn K mainGlobals "ins_of" = some (some (.ref f3))) (l3 : K.lookup f3 = some ⟨oc3, od3, .func (PySem.W.fnOf "ins_of" "ins_of" (defArgs (top 20)) (defBody (top 20)) (defScope (top 20)) .none kV3 dc3 pm3 an3 cd3 ct3), sl3⟩) (c3 : PySem.W.codeIn K cd3 "ins_of" = true) (k3 : PySem.W.keepIn K (.ref f3) = true)
  (a4 : PySem.W.nsIn K mainGlobals "keeps_of" = some (some (.ref f4))) (l4 : K.lookup f4 = some ⟨oc4, od4, .func (PySem.W.fnOf "keeps_of" "keeps_of" (defArgs (top 21)) (defBody (top 21)) (defScope (top 21)) .none kV4 dc4 pm4 an4 cd4 ct4), sl4⟩) (c4 : PySem.W.codeIn K cd4 "keeps_of" = true) (k4 : PySem.W.keepIn K (.ref f4) = true)
  (a5 : PySem.W.nsIn K mainGlobals "feeds_of" = some (some (.ref f5))) (l5 : K.lookup f5 = some ⟨oc5, od5, .func (PySem.W.fnOf "feeds_of" "feeds_of" (defArgs (top 22)) (defBody (top 22)) (defScope (top 22)) .none kV5 dc5 pm5 an5 cd5 ct5), sl5⟩) (c5 : PySem.W.codeIn K cd5 "feeds_of" = true) (k5 : PySem.W.keepIn K (.ref f5) = true)
  (a6 : PySem.W.nsIn K mainGlobals "_law_next" = some (some (.ref f6))) (l6 : K.lookup f6 = some ⟨oc6, od6, .func (PySem.W.fnOf "_law_next" "_law_next" (defArgs (top 24)) (defBody (top 24)) (defScope (top 24)) .none kV6 dc6 pm6 an6 cd6 ct6), sl6⟩) (c6 : PySem.W.codeIn K cd6 "_law_next" = true) (k6 : PySem.W.keepIn K (.ref f6) = true)
  (a7 : PySem.W.nsIn K mainGlobals "_law_net" = some (some (.ref f7))) (l7 : K.lookup f7 = some ⟨oc7, od7, .func (PySem.W.fnOf "_law_net" "_law_net" (defArgs (top 25)) (defBody (top 25)) (defScope (top 25)) .none kV7 dc7 pm7 an7 cd7 ct7), sl7⟩) (c7 : PySem.W.codeIn K cd7 "_law_net" = true) (k7 : PySem.W.keepIn K (.ref f7) = true)
  (a8 : PySem.W.nsIn K mainGlobals "_law_same" = some (some (.ref f8))) (l8 : K.lookup f8 = some ⟨oc8, od8, .func (PySem.W.fnOf "_law_same" "_law_same" (defArgs (top 26)) (defBody (top 26)) (defScope (top 26)) .none kV8 dc8 pm8 an8 cd8 ct8), sl8⟩) (c8 : PySem.W.codeIn K cd8 "_law_same" = true) (k8 : PySem.W.keepIn K (.ref f8) = true)
  (a9 : PySem.W.nsIn K mainGlobals "_law_word" = some (some (.ref f9))) (l9 : K.lookup f9 = some ⟨oc9, od9, .func (PySem.W.fnOf "_law_word" "_law_word" (defArgs (top 27)) (defBody (top 27)) (defScope (top 27)) .none kV9 dc9 pm9 an9 cd9 ct9), sl9⟩) (c9 : PySem.W.codeIn K cd9 "_law_word" = true) (k9 : PySem.W.keepIn K (.ref f9) = true)
  (a10 : PySem.W.nsIn K mainGlobals "_law_odd" = some (some (.ref f10))) (l10 : K.lookup f10 = some ⟨oc10, od10, .func (PySem.W.fnOf "_law_odd" "_law_odd" (defArgs (top 28)) (defBody (top 28)) (defScope (top 28)) .none kV10 dc10 pm10 an10 cd10 ct10), sl10⟩) (c10 : PySem.W.codeIn K cd10 "_law_odd" = true) (k10 : PySem.W.keepIn K (.ref f10) = true)
  (a11 : PySem.W.nsIn K mainGlobals "_law_refused" = some (some (.ref f11))) (l11 : K.lookup f11 = some ⟨oc11, od11, .func (PySem.W.fnOf "_law_refused" "_law_refused" (defArgs (top 29)) (defBody (top 29)) (defScope (top 29)) .none kV11 dc11 pm11 an11 cd11 ct11), sl11⟩) (c11 : PySem.W.codeIn K cd11 "_law_refused" = true) (k11 : PySem.W.keepIn K (.ref f11) = true)
  (a12 : PySem.W.nsIn K mainGlobals "_law_lists" = some (some (.ref f12))) (l12 : K.lookup f12 = some ⟨oc12, od12, .func (PySem.W.fnOf "_law_lists" "_law_lists" (defArgs (top 30)) (defBody (top 30)) (defScope (top 30)) .none kV12 dc12 pm12 an12 cd12 ct12), sl12⟩) (c12 : PySem.W.codeIn K cd12 "_law_lists" = true) (k12 : PySem.W.keepIn K (.ref f12) = true)
  (a13 : PySem.W.nsIn K mainGlobals "_law_case" = some (some (.ref f13))) (l13 : K.lookup f13 = some ⟨oc13, od13, .func (PySem.W.fnOf "_law_case" "_law_case" (defArgs (top 31)) (defBody (top 31)) (defScope (top 31)) .none kV13 dc13 pm13 an13 cd13 ct13), sl13⟩) (c13 : PySem.W.codeIn K cd13 "_law_case" = true) (k13 : PySem.W.keepIn K (.ref f13) = true)
  (a14 : PySem.W.nsIn K mainGlobals "law" = some (some (.ref f14))) (l14 : K.lookup f14 = some ⟨oc14, od14, .func (PySem.W.fnOf "law" "law" (defArgs (top 32)) (defBody (top 32)) (defScope (top 32)) .none kV14 dc14 pm14 an14 cd14 ct14), sl14⟩) (c14 : PySem.W.codeIn K cd14 "law" = true) (k14 : PySem.W.keepIn K (.ref f14) = true)
  (a15 : PySem.W.findIn K (.ref CN) "__init__" = some (some (.ref f15))) (l15 : K.lookup f15 = some ⟨oc15, od15, .func (PySem.W.fnOf "__init__" "Net.__init__" (defArgs (inClass (top 19) 0)) (defBody (inClass (top 19) 0)) (defScope (inClass (top 19) 0)) .none kV15 dc15 pm15 an15 cd15 ct15), sl15⟩) (c15 : PySem.W.codeIn K cd15 "Net.__init__" = true) (k15 : PySem.W.keepIn K (.ref f15) = true) (i15 : PySem.W.isFn K (.ref f15) = true)
  (a16 : PySem.W.findIn K (.ref ENoNet) "__init__" = some (some (.ref f16))) (l16 : K.lookup f16 = some ⟨oc16, od16, .func (PySem.W.fnOf "__init__" "NoNet.__init__" (defArgs (inClass (top 10) 0)) (defBody (inClass (top 10) 0)) (defScope (inClass (top 10) 0)) .none kV16 dc16 pm16 an16 cd16 ct16), sl16⟩) (c16 : PySem.W.codeIn K cd16 "NoNet.__init__" = true) (k16 : PySem.W.keepIn K (.ref f16) = true) (i16 : PySem.W.isFn K (.ref f16) = true)
  (pgN : PySem.W.plainGet K CN Str.empty = true) (hdN : PySem.W.hasDictIn K CN = true) (poN : PySem.W.plainOver K CN = true) (saN : PySem.W.findIn K (.ref CN) "__setattr__" = some (some (.builtin "object.__setattr__"))) (mkN : PySem.W.makesIn K CN = true) (kcN : PySem.W.keepIn K (.ref CN) = true)
  (nN_gates : PySem.W.findIn K (.ref CN) "gates" = some none)
  (nN_outs : PySem.W.findIn K (.ref CN) "outs" = some none)
  (z_len : PySem.W.nsIn K mainGlobals "len" = some none)
  (z_range : PySem.W.nsIn K mainGlobals "range" = some none)
  (z_int : PySem.W.nsIn K mainGlobals "int" = some none)
  (z_str : PySem.W.nsIn K mainGlobals "str" = some none)
  (z_isinstance : PySem.W.nsIn K mainGlobals "isinstance" = some none)
  (z_zip : PySem.W.nsIn K mainGlobals "zip" = some none)
  (z_list : PySem.W.nsIn K mainGlobals "list" = some none)
  (z_tuple : PySem.W.nsIn K mainGlobals "tuple" = some none)
  (z_dict : PySem.W.nsIn K mainGlobals "dict" = some none)
  (z_bool : PySem.W.nsIn K mainGlobals "bool" = some none)
  (z_all : PySem.W.nsIn K mainGlobals "all" = some none)
  (z_enumerate : PySem.W.nsIn K mainGlobals "enumerate" = some none)
  (z_max : PySem.W.nsIn K mainGlobals "max" = some none)
  (z_min : PySem.W.nsIn K mainGlobals "min" = some none)
  (z_ValueError : PySem.W.nsIn K mainGlobals "ValueError" = some none)
  (xhd : PySem.W.hasDictIn K ENoNet = true) (xsa : PySem.W.findIn K (.ref ENoNet) "__setattr__" = some (some (.builtin "object.__setattr__"))) (xkc : PySem.W.keepIn K (.ref ENoNet) = true) (xna : PySem.W.findIn K (.ref ENoNet) "gate" = some none)
  (fhg : PySem.W.specialIn K (.ref EFloorError) "__getattribute__" = some (some (.builtin "type.__getattribute__"))) (frd : PySem.W.readsIn K EFloorError (.type "type") = true) (ffd : PySem.W.findCls K (.ref EFloorError) (.type "type") "__init__" = some (.val (.builtin "ValueError.__init__")))
  (xcR : XB K ENoNet) (xcF : XB K EFloorError) (xsb : PySem.W.mroIn K ENoNet (.ref EFloorError) = some true)
  (xga : PySem.W.findIn K (.ref ENoNet) "__getattribute__" = some (some (.builtin "BaseException.__getattribute__"))) (xgt : PySem.W.findIn K (.ref ENoNet) "__getattr__" = some none) (xcl : PySem.W.findIn K (.ref ENoNet) "__class__" = some (some (.builtin "object.__class__")))
  (xsg : PySem.W.specialIn K (.builtin "object.__class__") "__get__" = some (some (.builtin "getset_descriptor.__get__"))) (xtk : PySem.W.takesIn K (.builtin "object.__class__") = some true) (xmo : PySem.W.mroIn K ENoNet (.type "object") = some true)
  (w_NoNet : PySem.W.kitOne K (.ref ENoNet) (.ref ENoNet) = some true)
  (w_NoText : PySem.W.kitOne K (.ref ENoNet) (.ref ENoText) = some false)
  (w_NoSense : PySem.W.kitOne K (.ref ENoNet) (.ref ENoSense) = some false)
  (w_NoRow : PySem.W.kitOne K (.ref ENoNet) (.ref ENoRow) = some false)
  (w_NoTables : PySem.W.kitOne K (.ref ENoNet) (.ref ENoTables) = some false)
  (w_NoPack : PySem.W.kitOne K (.ref ENoNet) (.ref ENoPack) = some false)
  (w_NoFloor : PySem.W.kitOne K (.ref ENoNet) (.ref ENoFloor) = some false)
  (w_OutOfFloor : PySem.W.kitOne K (.ref ENoNet) (.ref EOutOfFloor) = some false)
  (w_NoRoom : PySem.W.kitOne K (.ref ENoNet) (.ref ENoRoom) = some false)
  (w_NoWays : PySem.W.kitOne K (.ref ENoNet) (.ref ENoWays) = some false)
  (w_NoBits : PySem.W.kitOne K (.ref ENoNet) (.ref ENoBits) = some false)
  (w_V : PySem.W.kitOne K (.ref ENoNet) (.type "ValueError") = some true)
  {ff : Addr} {kvs : List (Key × V)} (aFC : PySem.W.nsIn K mainGlobals "FEED_COUNTS" = some (some (.ref ff)))
  (hKD : KD l.prog w K ff kvs)
  (hF : ∀ w, valV kvs (Sum.inr w) = (List.lookup w FC).map V.int) :
  ∃ fd : FuncData, (∀ (s : Shared) (v : Value), BindsTo s fd ⟨[v], []⟩ [("_law_script", v)]) ∧ ∀ base : Heap, K.In base → base.Ns mainGlobals mg → FnOk l.prog w K mg base CX0 12 fa fd ["_law_script"] (spLaw K) := by
 have e := hfa.symm.trans (PySem.W.mg_of X G a14)
 cases e
 have F0 := zaci (st := top 14) l0 c0 k0
 have b0 := F0.binds (ps := ["thing"]) fun _ _ _ _ _ _ us hl => match us, hl with | [_], _ => rfl
 have m0 := PySem.W.mg_of X G a0
 have F1 := zaci (st := top 15) l1 c1 k1
 have b1 := F1.binds (ps := ["thing", "bound"]) fun _ _ _ _ _ _ us hl => match us, hl with | [_, _], _ => rfl
 have m1 := PySem.W.mg_of X G a1
 have F2 := zaci (st := top 18) l2 c2 k2
 have b2 := F2.binds (ps := ["thing", "ahead", "total"]) fun _ _ _ _ _ _ us hl => match us, hl with | [_, _, _], _ => rfl
 have m2 := PySem.W.mg_of X G a2
 have F3 := zaci (st := top 20) l3 c3 k3
 have b3 := F3.binds (ps := ["net"]) fun _ _ _ _ _ _ us hl => match us, hl with | [_], _ => rfl
 have m3 := PySem.W.mg_of X G a3
 have F4 := zaci (st := top 21) l4 c4 k4
 have b4 := F4.binds (ps := ["net"]) fun _ _ _ _ _ _ us hl => match us, hl with | [_], _ => rfl
 have m4 := PySem.W.mg_of X G a4
 have F5 := zaci (st := top 22) l5 c5 k5
 have b5 := F5.binds (ps := ["gate"]) fun _ _ _ _ _ _ us hl => match us, hl with | [_], _ => rfl
 have m5 := PySem.W.mg_of X G a5
 have F6 := zaci (st := top 24) l6 c6 k6
 have b6 := F6.binds (ps := ["_law_script", "_law_at"]) fun _ _ _ _ _ _ us hl => match us, hl with | [_, _], _ => rfl
 have m6 := PySem.W.mg_of X G a6
 have F7 := zaci (st := top 25) l7 c7 k7
 have b7 := F7.binds (ps := ["_law_script", "_law_at", "_law_ins", "_law_keeps", "_law_many"]) fun _ _ _ _ _ _ us hl => match us, hl with | [_, _, _, _, _], _ => rfl
 have m7 := PySem.W.mg_of X G a7
 have F8 := zaci (st := top 26) l8 c8 k8
 have b8 := F8.binds (ps := ["_law_found", "_law_due"]) fun _ _ _ _ _ _ us hl => match us, hl with | [_, _], _ => rfl
 have m8 := PySem.W.mg_of X G a8
 have F9 := zaci (st := top 27) l9 c9 k9
 have b9 := F9.binds (ps := ["_law_e"]) fun _ _ _ _ _ _ us hl => match us, hl with | [_], _ => rfl
 have m9 := PySem.W.mg_of X G a9
 have F10 := zaci (st := top 28) l10 c10 k10
 have b10 := F10.binds (ps := ["_law_m", "_law_gate", "_law_number", "_law_many"]) fun _ _ _ _ _ _ us hl => match us, hl with | [_, _, _, _], _ => rfl
 have m10 := PySem.W.mg_of X G a10
 have F11 := zaci (st := top 29) l11 c11 k11
 have b11 := F11.binds (ps := ["_law_gates", "_law_outs"]) fun _ _ _ _ _ _ us hl => match us, hl with | [_, _], _ => rfl
 have m11 := PySem.W.mg_of X G a11
 have F12 := zaci (st := top 30) l12 c12 k12
 have b12 := F12.binds (ps := ["_law_net_here", "_law_gates"]) fun _ _ _ _ _ _ us hl => match us, hl with | [_, _], _ => rfl
 have m12 := PySem.W.mg_of X G a12
 have F13 := zaci (st := top 31) l13 c13 k13
 have b13 := F13.binds (ps := ["_law_script", "_law_at"]) fun _ _ _ _ _ _ us hl => match us, hl with | [_, _], _ => rfl
 have m13 := PySem.W.mg_of X G a13
 have F14 := zaci (st := top 32) l14 c14 k14
 have F15 := zaci (st := inClass (top 19) 0) l15 c15 k15
 have b15 := F15.binds (ps := ["self", "gates", "outs"]) fun _ _ _ _ _ _ us hl => match us, hl with | [_, _, _], _ => rfl
 have F16 := zaci (st := inClass (top 10) 0) l16 c16 k16
 have b16 := F16.binds (ps := ["self", "gate"]) fun _ _ _ _ _ _ us hl => match us, hl with | [_, _], _ => rfl
 have z_len := PySem.W.mg_none_of X G z_len
 have z_range := PySem.W.mg_none_of X G z_range
 have z_int := PySem.W.mg_none_of X G z_int
 have z_str := PySem.W.mg_none_of X G z_str
 have z_isinstance := PySem.W.mg_none_of X G z_isinstance
 have z_zip := PySem.W.mg_none_of X G z_zip
 have z_list := PySem.W.mg_none_of X G z_list
 have z_tuple := PySem.W.mg_none_of X G z_tuple
 have z_dict := PySem.W.mg_none_of X G z_dict
 have z_bool := PySem.W.mg_none_of X G z_bool
 have z_all := PySem.W.mg_none_of X G z_all
 have z_enumerate := PySem.W.mg_none_of X G z_enumerate
 have z_max := PySem.W.mg_none_of X G z_max
 have z_min := PySem.W.mg_none_of X G z_min
 have z_ValueError := PySem.W.mg_none_of X G z_ValueError
 have m_FloorError := PySem.W.mg_of X G eFloorError
 have m_NoNet := PySem.W.mg_of X G eNoNet
 have m_NoText := PySem.W.mg_of X G eNoText
 have m_NoSense := PySem.W.mg_of X G eNoSense
 have m_NoRow := PySem.W.mg_of X G eNoRow
 have m_NoTables := PySem.W.mg_of X G eNoTables
 have m_NoPack := PySem.W.mg_of X G eNoPack
 have m_NoFloor := PySem.W.mg_of X G eNoFloor
 have m_OutOfFloor := PySem.W.mg_of X G eOutOfFloor
 have m_NoRoom := PySem.W.mg_of X G eNoRoom
 have m_NoWays := PySem.W.mg_of X G eNoWays
 have m_NoBits := PySem.W.mg_of X G eNoBits
 have mN := PySem.W.mg_of X G aN
 have clN : Cls K CN := ⟨pgN, hdN, poN, saN⟩
 have XR : XB K ENoNet := xcR
 have XF : XB K EFloorError := xcF
 have xa : XA K ENoNet := ⟨XR, xga, xgt, xcl, xsg, xtk, xmo, zapn xmo⟩
 have sub : XSub K ENoNet EFloorError := zanx xsb
 refine ⟨PySem.W.fnOf "law" "law" (defArgs (top 32)) (defBody (top 32)) (defScope (top 32)) .none kV14 dc14 pm14 an14 cd14 ct14, fun s v => .of_eq rfl, fun base _ _ => ?_⟩
 have m_FEED_COUNTS := PySem.W.mg_of X G aFC
 have D_is_whole_1 : DefOk l.prog w K mg base CX0 1 "is_whole" ["thing"] spWhole := ⟨f0, _, zalp (k := 0) F0 z_isinstance z_int z_bool, b0, k0, m0⟩
 have D_is_below_2 : DefOk l.prog w K mg base CX0 2 "is_below" ["thing", "bound"] spBelow := ⟨f1, _, zalq (k := 1) F1 D_is_whole_1, b1, k1, m1⟩
 have D_is_gate_3 : DefOk l.prog w K mg base CX0 3 "is_gate" ["thing", "ahead", "total"] spGate := ⟨f2, _, zanj (k := 2) F2 D_is_below_2 m_FEED_COUNTS hKD hF z_isinstance z_tuple z_str z_len z_all, b2, k2, m2⟩
 have xi : XI K ENoNet f16 := ⟨XR, xkc, a16, beq_iff_eq.mp i16, xhd, xmo, xsa⟩
 have ci : ClsIni K EFloorError := ⟨fhg, frd, ffd⟩
 have RT : RaiseOk l.prog w K mg base 1 "NoNet" ENoNet "gate" := ⟨⟨f16, _, ["self", "gate"], zap2 (k := 0) F16 xi xna m_FloorError ci, b16, xi, m_NoNet⟩⟩
 have wk : WN K ENoNet [(ENoText, false), (ENoSense, false), (ENoRow, false), (ENoNet, true), (ENoTables, false), (ENoPack, false), (ENoFloor, false), (EOutOfFloor, false), (ENoRoom, false), (ENoWays, false), (ENoBits, false)] := by
  refine ⟨xa, fun c b hm => ?_, w_V⟩
  simp only [List.mem_cons, List.not_mem_nil, or_false, Prod.mk.injEq] at hm
  rcases hm with ⟨rfl, rfl⟩ | ⟨rfl, rfl⟩ | ⟨rfl, rfl⟩ | ⟨rfl, rfl⟩ | ⟨rfl, rfl⟩ | ⟨rfl, rfl⟩ | ⟨rfl, rfl⟩ | ⟨rfl, rfl⟩ | ⟨rfl, rfl⟩ | ⟨rfl, rfl⟩ | ⟨rfl, rfl⟩
  ·exact w_NoText
  ·exact w_NoSense
  ·exact w_NoRow
  ·exact w_NoNet
  ·exact w_NoTables
  ·exact w_NoPack
  ·exact w_NoFloor
  ·exact w_OutOfFloor
  ·exact w_NoRoom
  ·exact w_NoWays
  ·exact w_NoBits
 have MkNX : MakeOk l.prog w K mg base (CXE l.prog w) 4 CN "Net" ["self", "gates", "outs"] (spNet CN ENoNet) := ⟨⟨f15, _, zal7 (k := 2) F15 clN nN_gates nN_outs (RT.mono (by omega)) D_is_gate_3 (D_is_below_2.mono (by omega)) z_enumerate z_len z_tuple, b15, ⟨mkN, a15, i15, kcN⟩, mN⟩⟩
 have MkN : MakeOk l.prog w K mg base CX0 4 CN "Net" ["self", "gates", "outs"] (fun vs H Q _ => spNet CN ENoNet vs H Q E0) := ⟨⟨f15, _, (zal7 (k := 2) F15 clN nN_gates nN_outs (RT.mono (by omega)) D_is_gate_3 (D_is_below_2.mono (by omega)) z_enumerate z_len z_tuple).calm (fun _ _ _ _ h => h), b15, ⟨mkN, a15, i15, kcN⟩, mN⟩⟩
 have D_ins_of_1 : DefOk l.prog w K mg base CX0 1 "ins_of" ["net"] (spIns CN) := ⟨f3, _, zaj9 (k := 0) F3 clN nN_gates z_enumerate, b3, k3, m3⟩
 have D_keeps_of_1 : DefOk l.prog w K mg base CX0 1 "keeps_of" ["net"] (spKeeps CN) := ⟨f4, _, zahf (k := 0) F4 clN nN_gates z_enumerate, b4, k4, m4⟩
 have D_feeds_of_1 : DefOk l.prog w K mg base CX0 1 "feeds_of" ["gate"] spFeeds := ⟨f5, _, zalr (k := 0) F5 z_list, b5, k5, m5⟩
 have D__law_next_1 : DefOk l.prog w K mg base CX0 1 "_law_next" ["_law_script", "_law_at"] (spNext K) := ⟨f6, _, zanl (k := 0) F6 z_len z_range, b6, k6, m6⟩
 have D__law_net_2 : DefOk l.prog w K mg base CX0 2 "_law_net" ["_law_script", "_law_at", "_law_ins", "_law_keeps", "_law_many"] (spLNet K) := ⟨f7, _, zanm (k := 1) F7 D__law_next_1 z_len z_range z_max z_min z_tuple, b7, k7, m7⟩
 have D0__law_same_1 : DefOk l.prog w K mg base CX0 1 "_law_same" ["_law_found", "_law_due"] (spSame 0) := ⟨f8, _, zals (k := 0) F8, b8, k8, m8⟩
 have D1__law_same_2 : DefOk l.prog w K mg base CX0 2 "_law_same" ["_law_found", "_law_due"] (spSame 1) := ⟨f8, _, zafz (k := 1) 0 F8 D0__law_same_1 z_isinstance z_dict z_list z_tuple z_str z_int z_bool z_len z_all z_zip, b8, k8, m8⟩
 have D2__law_same_3 : DefOk l.prog w K mg base CX0 3 "_law_same" ["_law_found", "_law_due"] (spSame 2) := ⟨f8, _, zafz (k := 2) 1 F8 D1__law_same_2 z_isinstance z_dict z_list z_tuple z_str z_int z_bool z_len z_all z_zip, b8, k8, m8⟩
 have D3__law_same_4 : DefOk l.prog w K mg base CX0 4 "_law_same" ["_law_found", "_law_due"] (spSame 3) := ⟨f8, _, zafz (k := 3) 2 F8 D2__law_same_3 z_isinstance z_dict z_list z_tuple z_str z_int z_bool z_len z_all z_zip, b8, k8, m8⟩
 have D4__law_same_5 : DefOk l.prog w K mg base CX0 5 "_law_same" ["_law_found", "_law_due"] (spSame 4) := ⟨f8, _, zafz (k := 4) 3 F8 D3__law_same_4 z_isinstance z_dict z_list z_tuple z_str z_int z_bool z_len z_all z_zip, b8, k8, m8⟩
 have D__law_lists_6 : DefOk l.prog w K mg base CX0 6 "_law_lists" ["_law_net_here", "_law_gates"] (spLists CN) := ⟨f12, _, zalw (k := 5) F12 (D_ins_of_1.mono (by omega)) (D_keeps_of_1.mono (by omega)) (D_feeds_of_1.mono (by omega)) D4__law_same_5 z_enumerate z_list, b12, k12, m12⟩
 have D__law_odd_1 : DefOk l.prog w K mg base CX0 1 "_law_odd" ["_law_m", "_law_gate", "_law_number", "_law_many"] spOdd := ⟨f10, _, zapj (k := 0) F10 z_len z_list, b10, k10, m10⟩
 have DW : DefOkH l.prog w K mg base 5 "_law_word" ["_law_e"] (spWord ENoNet "net") := ⟨f9, _, zann (k := 4) F9 wk m_NoText m_NoSense m_NoRow m_NoNet m_NoTables m_NoPack m_NoFloor m_OutOfFloor m_NoRoom m_NoWays m_NoBits z_isinstance z_ValueError z_range z_len, b9, k9, m9⟩
 have D__law_refused_6 : DefOk l.prog w K mg base CX0 6 "_law_refused" ["_law_gates", "_law_outs"] spRef := ⟨f11, _, zapk (k := 4) F11 MkNX DW xa m_FloorError XF XR sub xhd xna, b11, k11, m11⟩
 have D__law_case_8 : DefOk l.prog w K mg base CX0 8 "_law_case" ["_law_script", "_law_at"] (spCase K) := ⟨f13, _, zanw (k := 6) F13 (D__law_next_1.mono (by omega)) (D__law_net_2.mono (by omega)) (MkN.mono (by omega)) (D4__law_same_5.mono (by omega)) (D__law_lists_6.mono (by omega)) (D__law_odd_1.mono (by omega)) (D__law_refused_6.mono (by omega)) clN nN_gates nN_outs mN z_list z_tuple z_len, b13, k13, m13⟩
 exact zapm (k := 11) F14 (D__law_next_1.mono (by omega)) (D__law_case_8.mono (by omega)) z_range
end

end B17
namespace B17
open PySem L2
theorem zap9 {K : PySem.W.Frag} {C CF N : Addr} {dd ddN : Option Addr} {cd : ClassData} {sl slN : Array (Option Value)} {k0 k1 k2 k3 k5 : Option Value} {cN : Value} {es : Array DictEntry} {ep : Nat} (xF : XC K CF) (l : K.lookup C = some ⟨.type "type", dd, .cls cd, sl⟩) (hm : cd.mro = .ref C :: .ref CF :: bmV)
  (hs : sl.toList = [k0, k1, k2, k3, some (.builtin "ValueError.__new__"), k5]) (hd : cd.hasDel = false) (hN : cd.ns = N) (lN : K.lookup N = some ⟨cN, ddN, .dict es ep, slN⟩) (he : (es.toList.all fun e => match e.key with | .str _ _ => true | _ => false) = true) : XB K C := by
 have t0 : PySem.W.tailIn K bmV bmV = true := rfl
 have t1 : PySem.W.tailIn K bmV (.ref CF :: bmV) = true := by
  have xF : PySem.W.excIn K CF bmV "ValueError.__new__" = true := xF
  unfold PySem.W.excIn at xF
  unfold PySem.W.tailIn
  split at xF
  case h_2 => cases xF
  case h_1 ddF cF slF ho =>
   split at xF
   case h_2 => cases xF
   case h_1 C' bm k0 k1 k2 k3 n k5 hm hs =>
    simp only [Bool.and_eq_true] at xF
    dsimp only
    rw [ho]
    simp only [xF.1.2, xF.2, t0, Bool.and_self, Bool.or_true]
 have t2 : PySem.W.nsOkIn K cd.ns = true := by
  unfold PySem.W.nsOkIn
  rw [hN, lN]
  rw [Array.all_toList] at he
  exact he
 unfold XB
 rw [l]
 show (match cd.mro, sl.toList with
  | .ref C' :: bm, [_, _, _, _, some (.builtin n), _] => C' == C && n == "ValueError.__new__" && !cd.hasDel && PySem.W.tailIn K bmV bm && PySem.W.nsOkIn K cd.ns
  | _, _ => false) = true
 rw [hm, hs]
 show (C == C && "ValueError.__new__" == "ValueError.__new__" && !cd.hasDel && PySem.W.tailIn K bmV (.ref CF :: bmV) && PySem.W.nsOkIn K cd.ns) = true
 rw [t1, t2, hd]
 simp
def XS : List (Str × Tok × Value) := [("in", 447, .int 0 448), ("zero", 449, .int 0 450), ("one", 451, .int 0 452), ("not", 453, .int 1 454), ("and", 455, .int 2 456), ("or", 457, .int 2 458), ("xor", 459, .int 2 460), ("pick", 461, .int 3 462)]
def VS : List V := [.int 0, .int 0, .int 0, .int 1, .int 2, .int 2, .int 2, .int 3]
def KVS : List (Key × V) := (XS.map fun x => (Sum.inr x.1 : Key)).zip VS
theorem zaqa : (XS.map (·.1)).Nodup := by decide +kernel
theorem zany : Vals VS (XS.map (·.2.2)) := .cons ⟨_, rfl⟩ (.cons ⟨_, rfl⟩ (.cons ⟨_, rfl⟩ (.cons ⟨_, rfl⟩ (.cons ⟨_, rfl⟩ (.cons ⟨_, rfl⟩ (.cons ⟨_, rfl⟩ (.cons ⟨_, rfl⟩ (.nil))))))))
theorem zalz {P : Program} {w : World} {K : PySem.W.Frag} {ff : Addr} {od : Option Addr} {ep : Nat} {sl : Array (Option Value)} {es : Array DictEntry} (l : K.lookup ff = some ⟨.type "dict", od, .dict es ep, sl⟩) (he : es.toList = XS.map (ent w))
  (hx : (⟨.type "dict", od, .dict es ep, sl⟩ : Obj).ExactDict) (ns : (ff == sysModules) = false) : KD P w K ff KVS := zap0 XS VS l he hx ns zaqa zany
theorem zapp {l : List (Str × Int)} (w : Str) : valV (l.map fun x => ((Sum.inr x.1 : Key), V.int x.2)) (Sum.inr w) = (List.lookup w l).map V.int := by
 induction l with
 | nil => rfl
 | cons x l ih =>
  obtain ⟨u, n⟩ := x
  rw [List.map_cons]
  by_cases h : u = w
  ·subst h
   rw [zafg (κ := Key) rfl, List.lookup_cons, beq_self_eq_true]
   rfl
  ·rw [zafh (fun e => h (Sum.inr.inj e)), ih, List.lookup_cons, beq_eq_false_iff_ne.mpr (fun e => h e.symm)]
theorem zanz : ∀ w, valV KVS (Sum.inr w) = (List.lookup w FC).map V.int := fun w => zapp (l := FC) w
end B17
open PySem PySem.W PyProof.Rows
theorem PySem.W.Fast.tw14785134499009726805 : True := trivial
theorem PySem.W.Fast.tw9683592559347696771 : True := trivial
theorem PySem.W.Fast.tw2594198439606178222 : True := trivial
theorem PySem.W.Fast.tw14668623506276047870 : True := trivial
theorem PySem.W.Fast.tw8501196946342017767 : True := trivial
theorem PySem.W.Fast.tw3595843167471946213 : True := trivial
theorem PySem.W.Fast.tw8691836257401452606 : True := trivial
theorem PySem.W.Fast.tw16855813625211724789 : True := trivial
theorem PySem.W.Fast.tw3158909131979974132 : True := trivial
theorem PySem.W.Fast.tw7150813375379600801 : True := trivial
theorem PySem.W.Fast.tw9111785665001458607 : True := trivial
theorem PySem.W.Fast.tw12859268814139660749 : True := trivial
theorem PySem.W.Fast.tw17729153739377162149 : True := trivial
theorem PySem.W.Fast.tw15774138913837831740 : True := trivial
theorem PySem.W.Fast.tw2311241759773035495 : True := trivial
theorem PySem.W.Fast.tw16218956814037404681 : True := trivial
theorem PySem.W.Fast.tw3967031962398139907 : True := trivial
theorem PySem.W.Fast.tw4648461968978317653 : True := trivial
theorem PySem.W.Fast.tw10702974555533772000 : True := trivial
theorem PySem.W.Fast.tw8900802955337402271 : True := trivial
theorem PySem.W.Fast.tw11045683154915097927 : True := trivial
theorem PySem.W.Fast.tw13379510987567253486 : True := trivial
theorem PySem.W.Fast.tw16884634689783008799 : True := trivial
theorem PySem.W.Fast.tw7829134799549840743 : True := trivial
theorem PySem.W.Fast.tw261048000409076648 : True := trivial
theorem PySem.W.Fast.tw11525731429348444960 : True := trivial
theorem PySem.W.Fast.tw3195531605304170021 : True := trivial
theorem PySem.W.Fast.tw8090204749209315278 : True := trivial
theorem PySem.W.Fast.tw1909592212393079643 : True := trivial
theorem PySem.W.Fast.tw9032192911365352958 : True := trivial
theorem PySem.W.Fast.tw10905663162104234176 : True := trivial
theorem PySem.W.Fast.tw6825313972394362212 : True := trivial
theorem PySem.W.Fast.tw9573436119618246944 : True := trivial
theorem PySem.W.Fast.tw14152996959351633669 : True := trivial
theorem PySem.W.Fast.tw10624416174492971484 : True := trivial
theorem PySem.W.Fast.tw9022865587063166828 : True := trivial
theorem PySem.W.Fast.tw11017474371569384895 : True := trivial
theorem PySem.W.Fast.tw13656132157205589760 : True := trivial
theorem PySem.W.Fast.tw12947144756638014161 : True := trivial
theorem PySem.W.Fast.tw2949773693768606709 : True := trivial
theorem PySem.W.Fast.tw16723706994949945180 : True := trivial
theorem PySem.W.Fast.tw13155007923629402312 : True := trivial
theorem PySem.W.Fast.tw17047979390094686602 : True := trivial
theorem PySem.W.Fast.tw4563331702330548289 : True := trivial
theorem PySem.W.Fast.tw15712082710165656445 : True := trivial
theorem PySem.W.Fast.tw17525499942425047201 : True := trivial
theorem PySem.W.Fast.tw17309085193314026310 : True := trivial
theorem PySem.W.Fast.tw17836607473521930575 : True := trivial
theorem PySem.W.Fast.tw8000176396305123356 : True := trivial
theorem PySem.W.Fast.tw8686554996850336730 : True := trivial
theorem PySem.W.Fast.tw4184472143325629462 : True := trivial
theorem PySem.W.Fast.tw10600596565866692219 : True := trivial
theorem PySem.W.Fast.tw6732528199231958543 : True := trivial
theorem PySem.W.Fast.tw11870611100182088690 : True := trivial
theorem PySem.W.Fast.tw15037278423892122464 : True := trivial
theorem PySem.W.Fast.tw8105667270548805088 : True := trivial
theorem PySem.W.Fast.tw7440075678920108389 : True := trivial
theorem PySem.W.Fast.tw12941219544081700936 : True := trivial
theorem PySem.W.Fast.tw1206147455652923702 : True := trivial
theorem PySem.W.Fast.tw17548715477473519112 : True := trivial
theorem PySem.W.Fast.tw2592014986574201183 : True := trivial
theorem PySem.W.Fast.tw5866597476050643985 : True := trivial
theorem PySem.W.Fast.tw16240339351739042030 : True := trivial
theorem PySem.W.Fast.tw7526312542772752325 : True := trivial
theorem PySem.W.Fast.tw11053696895420274949 : True := trivial
theorem PySem.W.Fast.tw14052385908665648656 : True := trivial
theorem PySem.W.Fast.tw5413731468793778258 : True := trivial
theorem PySem.W.Fast.tw16332421172741745824 : True := trivial
theorem PySem.W.Fast.tw1649673419905183503 : True := trivial
theorem PySem.W.Fast.tw18016000023105844228 : True := trivial
theorem PySem.W.Fast.tw851706708308944454 : True := trivial
theorem PySem.W.Fast.tw10979856313726872576 : True := trivial
theorem PySem.W.Fast.tw8011138042479721458 : True := trivial
theorem PySem.W.Fast.tw5808559374671891008 : True := trivial
theorem PySem.W.Fast.tw4269588498116734916 : True := trivial
theorem PySem.W.Fast.tw14427325059929577293 : True := trivial
theorem PySem.W.Fast.tw2039084818504343922 : True := trivial
set_option maxRecDepth 100000 in
set_option maxHeartbeats 0 in
theorem PySem.Challenge.cw_bitfloor_k15_nets_made_holds : PySem.Challenge.rw_bitfloor_k15_nets_made.Holds := by
 w_on; o_law; k_head; (case hw => w_witness2)
 k_fill
 refine L2.zak0 (l := PySem.Challenge.rw_bitfloor_k15_nets_made) (n := 63) (k := 12) (x := "_law_script") (CX := L2.CX0) (sp := B17.spLaw) rfl (by decide) rfl ⟨rfl, by decide, by decide⟩ (fun w h Y => PySem.W.kIn_of Y) ?F ?S ?C
 case F =>
  intro w mg fa h KX G hmg
  refine' B17.zapo KX G hmg ?aN ?eFloorError ?eNoNet ?eNoText ?eNoSense ?eNoRow ?eNoTables ?eNoPack ?eNoFloor ?eOutOfFloor ?eNoRoom ?eNoWays ?eNoBits ?a0 ?l0 ?c0 ?k0 ?a1 ?l1 ?c1 ?k1 ?a2 ?l2 ?c2 ?k2 ?a3 ?l3 ?c3 ?k3 ?a4 ?l4 ?c4 ?k4 ?a5 ?l5 ?c5 ?k5 ?a6 ?l6 ?c6 ?k6 ?a7 ?l7 ?c7 ?k7 ?a8 ?l8 ?c8 ?k8 ?a9 ?l9 ?c9 ?k9 ?a10 ?l10 ?c10 ?k10 ?a11 ?l11 ?c11 ?k11 ?a12 ?l12 ?c12 ?k12 ?a13 ?l13 ?c13 ?k13 ?a14 ?l14 ?c14 ?k14 ?a15 ?l15 ?c15 ?k15 ?i15 ?a16 ?l16 ?c16 ?k16 ?i16 ?pgN ?hdN ?poN ?saN ?mkN ?kcN ?nN_gates ?nN_outs ?z_len ?z_range ?z_int ?z_str ?z_isinstance ?z_zip ?z_list ?z_tuple ?z_dict ?z_bool ?z_all ?z_enumerate ?z_max ?z_min ?z_ValueError ?xhd ?xsa ?xkc ?xna ?fhg ?frd ?ffd ?xcR ?xcF ?xsb ?xga ?xgt ?xcl ?xsg ?xtk ?xmo ?w_NoNet ?w_NoText ?w_NoSense ?w_NoRow ?w_NoTables ?w_NoPack ?w_NoFloor ?w_OutOfFloor ?w_NoRoom ?w_NoWays ?w_NoBits ?w_V ?qaFC (B17.zalz ?qlf ?qhe ?qhx ?qns) B17.zanz
  (case aN => k_is)
  (case eFloorError => k_is)
  (case eNoNet => k_is)
  (case eNoText => k_is)
  (case eNoSense => k_is)
  (case eNoRow => k_is)
  (case eNoTables => k_is)
  (case eNoPack => k_is)
  (case eNoFloor => k_is)
  (case eOutOfFloor => k_is)
  (case eNoRoom => k_is)
  (case eNoWays => k_is)
  (case eNoBits => k_is)
  (case a0 => k_is)
  (case l0 => k_is)
  (case c0 => k_is)
  (case k0 => k_is)
  (case a1 => k_is)
  (case l1 => k_is)
  (case c1 => k_is)
  (case k1 => k_is)
  (case a2 => k_is)
  (case l2 => k_is)
  (case c2 => k_is)
  (case k2 => k_is)
  (case a3 => k_is)
  (case l3 => k_is)
  (case c3 => k_is)
  (case k3 => k_is)
  (case a4 => k_is)
  (case l4 => k_is)
  (case c4 => k_is)
  (case k4 => k_is)
  (case a5 => k_is)
  (case l5 => k_is)
  (case c5 => k_is)
  (case k5 => k_is)
  (case a6 => k_is)
  (case l6 => k_is)
  (case c6 => k_is)
  (case k6 => k_is)
  (case a7 => k_is)
  (case l7 => k_is)
  (case c7 => k_is)
  (case k7 => k_is)
  (case a8 => k_is)
  (case l8 => k_is)
  (case c8 => k_is)
  (case k8 => k_is)
  (case a9 => k_is)
  (case l9 => k_is)
  (case c9 => k_is)
  (case k9 => k_is)
  (case a10 => k_is)
  (case l10 => k_is)
  (case c10 => k_is)
  (case k10 => k_is)
  (case a11 => k_is)
  (case l11 => k_is)
  (case c11 => k_is)
  (case k11 => k_is)
  (case a12 => k_is)
  (case l12 => k_is)
  (case c12 => k_is)
  (case k12 => k_is)
  (case a13 => k_is)
  (case l13 => k_is)
  (case c13 => k_is)
  (case k13 => k_is)
  (case a14 => k_is)
  (case l14 => k_is)
  (case c14 => k_is)
  (case k14 => k_is)
  (case a15 => k_is)
  (case l15 => k_is)
  (case c15 => k_is)
  (case k15 => k_is)
  (case i15 => k_is)
  (case a16 => k_is)
  (case l16 => k_is)
  (case c16 => k_is)
  (case k16 => k_is)
  (case i16 => k_is)
  (case pgN => k_is)
  (case hdN => k_is)
  (case poN => k_is)
  (case saN => k_is)
  (case mkN => k_is)
  (case kcN => k_is)
  (case nN_gates => k_is)
  (case nN_outs => k_is)
  (case z_len => k_is)
  (case z_range => k_is)
  (case z_int => k_is)
  (case z_str => k_is)
  (case z_isinstance => k_is)
  (case z_zip => k_is)
  (case z_list => k_is)
  (case z_tuple => k_is)
  (case z_dict => k_is)
  (case z_bool => k_is)
  (case z_all => k_is)
  (case z_enumerate => k_is)
  (case z_max => k_is)
  (case z_min => k_is)
  (case z_ValueError => k_is)
  (case xhd => k_is)
  (case xsa => k_is)
  (case xkc => k_is)
  (case xna => k_is)
  (case fhg => k_is)
  (case frd => k_is)
  (case ffd => k_is)
  (case xcR => (refine' B17.zap9 ?x1 ?x2 ?x3 ?x4 ?x5 ?x6 ?x7 ?x8; (case x2 => k_is); (case x3 => rfl); (case x4 => rfl); (case x5 => rfl); (case x6 => rfl); (case x7 => k_is); (case x8 => rfl); (case x1 => (show PySem.W.excIn _ _ L2.bmV "ValueError.__new__" = true; k_exc))))
  (case xcF => exact L2.XC.b (show PySem.W.excIn _ _ L2.bmV "ValueError.__new__" = true by k_exc))
  (case xsb => k_is)
  (case xga => k_is)
  (case xgt => k_is)
  (case xcl => k_is)
  (case xsg => k_is)
  (case xtk => k_is)
  (case xmo => k_is)
  (case w_NoNet => kit_is)
  (case w_NoText => kit_is)
  (case w_NoSense => kit_is)
  (case w_NoRow => kit_is)
  (case w_NoTables => kit_is)
  (case w_NoPack => kit_is)
  (case w_NoFloor => kit_is)
  (case w_OutOfFloor => kit_is)
  (case w_NoRoom => kit_is)
  (case w_NoWays => kit_is)
  (case w_NoBits => kit_is)
  (case w_V => kit_is)
  (case qaFC => k_is)
  (case qlf => k_is)
  (case qhe => rfl)
  (case qhx => exact ⟨rfl, rfl, rfl⟩)
  (case qns => rfl)
 case S => exact fun K H a ns hl hO hS => ⟨a, ns, rfl, L2.Scr.of hS hl hO, fun _ => rfl⟩
 case C => exact fun _ _ _ _ z => z
