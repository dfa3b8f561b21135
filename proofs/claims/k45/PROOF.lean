import PyProof.Rows.All
import Wide.All
import OpenK.AllK
import Wide.FinOn
import Lean
import PyProof.EqAt
import PyProof.EqKinds
import PyProof.TupleCall
import PyProof.AttrMiss
import PyProof.ConsumeWalk
import KE.KDictOf
import OpenK.KOwn
import PyProof.NsDelKeeps
import KE.KIsAll
import PyProof.Rows.SumAny
import PyProof.NeKinds
import PyProof.SeqI3
import KE.KRevIter
import KE.KSortTup
import PyProof.DictIter
import KE.KDictList
import PyProof.TupleOfGen
import PyProof.FString5
import KE.KIntText
import PySem.Challenge.RW_bitfloor_k45_floors
import KE.RegKIsAll
set_option Elab.async false
set_option linter.all false
set_option maxRecDepth 100000
namespace L2
open PySem PySem.Spec PyProof.Rows
abbrev Key := Sum Int Str
def keyIs : Key → Value → Bool
 | .inl k, v => Value.isInt k v
 | .inr x, v => Value.isStrOf x v
def keyH (w : World) : Key → Int
 | .inl k => hashInt k
 | .inr x => hashStr w x
theorem zabs : ∀ {k : Key} {v : Value}, keyIs k v = true → (∃ i t, k = Sum.inl i ∧ v = Value.int i t) ∨ (∃ x t, k = Sum.inr x ∧ v = Value.str x t)
 | .inl i, v, h => by
  obtain ⟨t, e⟩ := Value.isInt_shape (k := i) (v := v) h
  exact .inl ⟨i, t, rfl, e⟩
 | .inr x, v, h => by
  obtain ⟨t, e⟩ := Value.isStrOf_shape (x := x) (v := v) h
  exact .inr ⟨x, t, rfl, e⟩
theorem zai5 (i : Int) (t : Tok) : keyIs (.inl i) (.int i t) = true := by simp [keyIs, Value.isInt]
theorem zai6 (x : Str) (t : Tok) : keyIs (.inr x) (.str x t) = true := by simp [keyIs, Value.isStrOf]
theorem zap2 (a b : Int) : decide ((Sum.inl a : Key) = Sum.inl b) = (a == b) := by
 by_cases e : a = b
 ·subst e; simp
 ·have h : ¬ (Sum.inl a : Key) = Sum.inl b := fun q => e (Sum.inl.inj q)
  rw [decide_eq_false h]
  exact (beq_eq_false_iff_ne.mpr e).symm
theorem zap3 (a b : Str) : decide ((Sum.inr a : Key) = Sum.inr b) = decide (a = b) := by
 by_cases e : a = b
 ·subst e; simp
 ·have h : ¬ (Sum.inr a : Key) = Sum.inr b := fun q => e (Sum.inr.inj q)
  rw [decide_eq_false h, decide_eq_false e]
theorem zap4 (a : Int) (b : Str) : decide ((Sum.inl a : Key) = Sum.inr b) = false := decide_eq_false (fun q => nomatch q)
theorem zap5 (a : Str) (b : Int) : decide ((Sum.inr a : Key) = Sum.inl b) = false := decide_eq_false (fun q => nomatch q)
def mixKind (prog : Program) (w : World) : PySem.KeyKind prog w Key where
 is := keyIs
 hash := keyH w
 inj := fun v a b ha hb => by
  rcases zabs ha with ⟨i, t, rfl, rfl⟩ | ⟨x, t, rfl, rfl⟩
  ·rcases zabs hb with ⟨j, u, rfl, e⟩ | ⟨y, u, rfl, e⟩
   ·injection e with e1 _; rw [e1]
   ·exact nomatch e
  ·rcases zabs hb with ⟨j, u, rfl, e⟩ | ⟨y, u, rfl, e⟩
   ·exact nomatch e
   ·injection e with e1 _; rw [e1]
 byValue := fun k v h => by
  rcases zabs h with ⟨i, t, rfl, rfl⟩ | ⟨x, t, rfl, rfl⟩ <;> rfl
 pyHash := fun hv h => by
  rcases zabs hv with ⟨i, t, rfl, rfl⟩ | ⟨x, t, rfl, rfl⟩
  ·exact wpAny_pyHash_int h
  ·exact wpAny_pyHash_str h
 eqBool := fun hu hv h => by
  rcases zabs hu with ⟨i, t, rfl, rfl⟩ | ⟨x, t, rfl, rfl⟩
  ·rcases zabs hv with ⟨j, u, rfl, rfl⟩ | ⟨y, u, rfl, rfl⟩
   ·rw [zap2] at h; exact wpAny_eqBool_int h
   ·rw [zap4] at h; exact SeqAt.EqAt.int_str i t y u _ _ _ _ h
  ·rcases zabs hv with ⟨j, u, rfl, rfl⟩ | ⟨y, u, rfl, rfl⟩
   ·rw [zap5] at h; exact SeqAt.EqAt.str_int x t j u _ _ _ _ h
   ·rw [zap3] at h; exact wpAny_eqBool_str h
 «strs» := fun k x t v h => by
  rcases zabs h with ⟨i, u, rfl, e⟩ | ⟨y, u, rfl, e⟩
  ·exact nomatch e
  ·injection e with e1 _
   subst e1
   cases v <;> rfl
theorem zag3 (prog : Program) (w : World) (i : Int) (t : Tok) : (mixKind prog w).is (.inl i) (.int i t) = true := zai5 i t
theorem zag4 (prog : Program) (w : World) (x : Str) (t : Tok) : (mixKind prog w).is (.inr x) (.str x t) = true := zai6 x t
inductive V where
 | non | bl (b : Bool) | int (i : Int) | str (x : Str) | byt (b : Array UInt8) | flt (b : UInt64) | ref (a : Addr) | ty (n : String)
 deriving DecidableEq
def RelV : V → Value → Prop
 | .non, u => u = Value.none
 | .bl b, u => u = Value.bool b
 | .int i, u => ∃ t, u = Value.int i t
 | .str x, u => ∃ t, u = Value.str x t
 | .byt b, u => ∃ t, u = Value.bytes b t
 | .flt b, u => ∃ t, u = Value.float b t
 | .ref a, u => u = Value.ref a
 | .ty n, u => u = Value.type n
abbrev Vals : List V → List Value → Prop := Paired RelV
theorem Vals.length {xs : List V} {us : List Value} (r : Vals xs us) : xs.length = us.length := Paired.length r
theorem Vals.get : ∀ {xs : List V} {us : List Value} {i : Nat} {x : V}, Vals xs us → xs[i]? = some x → ∃ u, us[i]? = some u ∧ RelV x u
 | _, _, _, _, .nil, e => by simp at e
 | _, _, 0, _, .cons r _, e => by simp at e; subst e; exact ⟨_, rfl, r⟩
 | _, _, i + 1, x, .cons _ t, e => by
  obtain ⟨u, h1, h2⟩ := Vals.get (i := i) (x := x) t (by simpa using e)
  exact ⟨u, by simpa using h1, h2⟩
theorem Vals.set {x : V} {u : Value} (r : RelV x u) : ∀ {xs : List V} {us : List Value} (i : Nat), Vals xs us → Vals (xs.set i x) (us.set i u)
 | _, _, _, .nil => .nil
 | _, _, 0, .cons _ t => .cons r t
 | _, _, i + 1, .cons q t => .cons q (Vals.set r i t)
theorem Vals.append : ∀ {xs ys : List V} {us ws : List Value}, Vals xs us → Vals ys ws → Vals (xs ++ ys) (us ++ ws)
 | _, _, _, _, .nil, s => s
 | _, _, _, _, .cons r t, s => .cons r (Vals.append t s)
theorem Vals.take : ∀ {xs : List V} {us : List Value} (n : Nat), Vals xs us → Vals (xs.take n) (us.take n)
 | _, _, 0, _ => .nil
 | _, _, _ + 1, .nil => .nil
 | _, _, n + 1, .cons r t => .cons r (Vals.take n t)
theorem Vals.drop : ∀ {xs : List V} {us : List Value} (n : Nat), Vals xs us → Vals (xs.drop n) (us.drop n)
 | _, _, 0, r => r
 | _, _, _ + 1, .nil => .nil
 | _, _, n + 1, .cons _ t => Vals.drop n t
def RelO : Option V → Option Value → Prop
 | some v, some u => RelV v u
 | none, none => True
 | _, _ => False
def KV {κ : Type} : List (κ × V) → List (κ × Value) → Prop := Paired fun (p : κ × V) (q : κ × Value) => p.1 = q.1 ∧ RelV p.2 q.2
def kV : Key → V
 | .inl i => .int i
 | .inr x => .str x
inductive HO where
 | lst (xs : List V)
 | tup (xs : List V)
 | dK (kvs : List (Key × V)) | dT (kvs : List (List Key × V))
 | set (S : Int → Bool) (n : Nat)
 | ins (C dx : Addr) (fs : List (Str × V))
 | own (x : Addr)
 | xd (fs : List (Str × V))
 | met (f x : Addr)
 | rng (lo hi : Int)
 | frz (o : Obj) (u : HO)
 | tbl (ps : Array Value)
 | ext (φ : Heap → Prop)
abbrev Hp := Addr → Option HO
def upd (H : Hp) (a : Addr) (o : HO) : Hp := fun b => if b = a then some o else H b
theorem zaal {H : Hp} {a : Addr} {o : HO} : upd H a o a = some o := by unfold upd; rw [if_pos rfl]
theorem zaa5 {H : Hp} {a b : Addr} {o : HO} (h : b ≠ a) : upd H a o b = H b := by unfold upd; rw [if_neg h]
theorem zal2 {H : Hp} {a b : Addr} {o u : HO} (h : H a = some o) (h' : H b = some u) (d : o ≠ u) : a ≠ b := by
 intro e; subst e; rw [h] at h'; exact d (Option.some.inj h')
theorem zabd {H : Hp} {a b : Addr} {o : HO} (h : H a = some o) (h' : H b = none) : a ≠ b := by
 intro e; subst e; rw [h] at h'; cases h'
section
variable (P : Program) (w : World)
def ObjOk (H : Hp) (h : Heap) (a : Addr) : HO → Prop
 | .lst xs => xs.length ≤ sizeLine ∧ ∃ (its : List Value) (n : Nat), Vals xs its ∧ h.get? a = some { cls := .type "list", data := .seq its.toArray n }
 | .tup xs => xs.length ≤ sizeLine ∧ ∃ its : List Value, Vals xs its ∧ IsTup h a its.toArray
 | .dK kvs => kvs.length ≤ sizeLine ∧ (a == sysModules) = false ∧ ∃ vs, KV kvs vs ∧ h.DictOf (mixKind P w) a vs
 | .dT kvs => kvs.length ≤ sizeLine ∧ (a == sysModules) = false ∧ ∃ xs : List (List Key × Addr × Value),
   Paired (fun (p : List Key × V) (q : List Key × Addr × Value) => p.1 = q.1 ∧ H q.2.1 = some (.tup (p.1.map kV)) ∧ RelV p.2 q.2.2) kvs xs ∧
   ∃ o es ep, h.get? a = some o ∧ o.ExactDict ∧ o.data = .dict es ep ∧ es.toList = xs.map (entryOfKey (tupleKind (mixKind P w))) ∧ (xs.map (·.1)).Nodup
 | .set S n => h.SetOf (intKind P w) a S n
 | .ins C dx fs => H dx = some (.own a) ∧ fs.length ≤ 1000 ∧ dx ≠ a ∧ h.get? a = some (PySem.W.instObj C dx) ∧
   ∃ mA, h.Ns1 dx mA ∧ (∀ f, RelO (fs.lookup f) (mA f)) ∧ PySem.Within mA (fs.map (·.1))
 | .own _ => ∃ o, h.get? a = some o
 | .xd fs => ∃ mA, h.Ns1 a mA ∧ ∀ f, RelO (fs.lookup f) (mA f)
 | .rng lo hi => ∃ t u v, h.get? a = some { cls := .type "range", data := .fields #[.int lo t, .int hi u, .int 1 v] }
 | .frz o u => h.get? a = some o ∧ ObjOk H h a u
 | .tbl ps => h.get? a = some { cls := .none, data := .fields ps }
 | .met f x => h.get? a = some (PySem.W.methodObj (.ref f) (.ref x))
 | .ext φ => φ h ∧ (∃ o, h.get? a = some o) ∧ ∀ h1 h2 : Heap, φ h1 → (∀ o, h1.get? a = some o → h2.get? a = some o) → φ h2
def HOk (H : Hp) (h : Heap) : Prop := ∀ a o, H a = some o → ObjOk P w H h a o
end
section
variable {P : Program} {w : World} {H H' : Hp} {h h' : Heap} {a : Addr} {o : HO}
theorem ObjOk.lt (x : ObjOk P w H h a o) : a < h.objs.size := by
 cases o with
 | lst xs => obtain ⟨_, _, _, _, e⟩ := x; exact Heap.lt_size e
 | tup xs => obtain ⟨_, _, _, p⟩ := x; exact p.lt
 | dK kvs => obtain ⟨_, _, _, _, o, _, _, e, _⟩ := x; exact Heap.lt_size e
 | dT kvs => obtain ⟨_, _, _, _, o, _, _, e, _⟩ := x; exact Heap.lt_size e
 | set S n => obtain ⟨o, _, _, _, e, _⟩ := x; exact Heap.lt_size e
 | ins C dx fs => obtain ⟨_, _, _, e, _⟩ := x; exact Heap.lt_size e
 | own y => obtain ⟨_, e⟩ := x; exact Heap.lt_size e
 | xd fs => obtain ⟨_, ⟨_, _, _, e, _⟩, _⟩ := x; exact Heap.lt_size e
 | rng lo hi => obtain ⟨_, _, _, e⟩ := x; exact Heap.lt_size e
 | frz ob u => obtain ⟨e, _⟩ := x; exact Heap.lt_size e
 | tbl ps => exact Heap.lt_size (show h.get? a = some _ from x)
 | met f y => exact Heap.lt_size (show h.get? a = some _ from x)
 | ext φ => obtain ⟨_, ⟨_, e⟩, _⟩ := x; exact Heap.lt_size e
theorem Paired.mapP {α β : Type} {F G : α → β → Prop} : ∀ {l₁ : List α} {l₂ : List β}, Paired F l₁ l₂ → (∀ a b, F a b → G a b) → Paired G l₁ l₂
 | _, _, .nil, _ => .nil
 | _, _, .cons r t, f => .cons (f _ _ r) (Paired.mapP t f)
theorem ObjOk.stay (x : ObjOk P w H h a o) (k : ∀ b u, (b = a ∨ H b = some (.own a)) → h.get? b = some u → h'.get? b = some u)
  (ho : ∀ b, H b = some (.own a) → H' b = some (.own a)) (ht : ∀ b xs, H b = some (.tup xs) → H' b = some (.tup xs)) : ObjOk P w H' h' a o := by
 induction o with
 | lst xs => obtain ⟨z, its, n, r, e⟩ := x; exact ⟨z, its, n, r, k _ _ (.inl rfl) e⟩
 | tup xs => obtain ⟨z, its, r, ob, e, c⟩ := x; exact ⟨z, its, r, ob, k _ _ (.inl rfl) e, c⟩
 | dK kvs => obtain ⟨z, y, vs, r, ob, es, ep, e, c⟩ := x; exact ⟨z, y, vs, r, ob, es, ep, k _ _ (.inl rfl) e, c⟩
 | dT kvs =>
  obtain ⟨z, y, xs, r, ob, es, ep, e, c⟩ := x
  exact ⟨z, y, xs, Paired.mapP r fun p q z => ⟨z.1, ht _ _ z.2.1, z.2.2⟩, ob, es, ep, k _ _ (.inl rfl) e, c⟩
 | set S n => obtain ⟨ob, es, ep, t, e, c⟩ := x; exact ⟨ob, es, ep, t, k _ _ (.inl rfl) e, c⟩
 | ins C dx fs =>
  obtain ⟨d, z, ne, e, mA, ⟨od, es, ep, e2, c⟩, r⟩ := x
  exact ⟨ho _ d, z, ne, k _ _ (.inl rfl) e, mA, ⟨od, es, ep, k _ _ (.inr d) e2, c⟩, r⟩
 | own y => obtain ⟨ob, e⟩ := x; exact ⟨ob, k _ _ (.inl rfl) e⟩
 | xd fs => obtain ⟨mA, ⟨od, es, ep, e, c⟩, r⟩ := x; exact ⟨mA, ⟨od, es, ep, k _ _ (.inl rfl) e, c⟩, r⟩
 | rng lo hi => obtain ⟨t, u, v, e⟩ := x; exact ⟨t, u, v, k _ _ (.inl rfl) e⟩
 | frz ob u ih => obtain ⟨e, q⟩ := x; exact ⟨k _ _ (.inl rfl) e, ih q⟩
 | tbl ps =>
  have e : h.get? a = some { cls := .none, data := .fields ps } := x
  show h'.get? a = some { cls := .none, data := .fields ps }
  exact k a _ (.inl rfl) e
 | met f y =>
  have e : h.get? a = some (PySem.W.methodObj (.ref f) (.ref y)) := x
  show h'.get? a = some (PySem.W.methodObj (.ref f) (.ref y))
  exact k a _ (.inl rfl) e
 | ext φ => obtain ⟨p, ⟨o, e⟩, st⟩ := x; exact ⟨st _ _ p fun o q => k _ _ (.inl rfl) q, ⟨o, k _ _ (.inl rfl) e⟩, st⟩
theorem HOk.lt (x : HOk P w H h) (e : H a = some o) : a < h.objs.size := (x a o e).lt
theorem HOk.fresh (x : HOk P w H h) (e : h.objs.size ≤ a) : H a = none := by
 cases q : H a with
 | none => rfl
 | some u => exact absurd (Nat.lt_of_lt_of_le (x.lt q) e) (Nat.lt_irrefl _)
theorem HOk.kept (x : HOk P w H h) (k : ∀ b u, h.get? b = some u → h'.get? b = some u) : HOk P w H h' := fun a o e =>
 (x a o e).stay (fun b u _ q => k b u q) (fun _ q => q) fun _ _ q => q
theorem HOk.laid (x : HOk P w H h) (k : ∀ b u, h.get? b = some u → h'.get? b = some u) (hp : h.objs.size ≤ a) (new : ObjOk P w (upd H a o) h' a o) : HOk P w (upd H a o) h' := fun b u e => by
 have hn := x.fresh hp
 by_cases hb : b = a
 ·subst hb; rw [zaal] at e; cases e; exact new
 ·rw [zaa5 hb] at e
  exact (x b u e).stay (fun c v _ q => k c v q) (fun c q => by rw [zaa5 (zabd q hn)]; exact q) fun c xs q => by rw [zaa5 (zabd q hn)]; exact q
end
def Rd (H : Hp) (a : Addr) (u : HO) : Prop := H a = some u ∨ ∃ o, H a = some (.frz o u)
theorem Rd.ok {P : Program} {w : World} {H : Hp} {h : Heap} {a : Addr} {u : HO} (r : Rd H a u) (x : HOk P w H h) : ObjOk P w H h a u := by
 rcases r with r | ⟨o, r⟩
 ·exact x a u r
 ·obtain ⟨_, q⟩ := x a _ r
  exact q
def Mut : Option HO → Prop
 | some (.lst _) => True
 | some (.dK _) => True
 | some (.dT _) => True
 | some (.set _ _) => True
 | some (.ins _ _ _) => True
 | some (.ext _) => True
 | _ => False
section
variable {P : Program} {w : World} {H : Hp} {h h' : Heap} {x e : Addr} {o' : HO}
theorem HOk.write (ok : HOk P w H h) (mu : Mut (H x)) (he : e = x ∨ H e = some (.own x)) (k : ∀ b u, b ≠ e → h.get? b = some u → h'.get? b = some u) (heo : ∃ u, h'.get? e = some u)
  (new : ObjOk P w (upd H x o') h' x o') : HOk P w (upd H x o') h' := fun b u q => by
 have nown : ∀ c y, H c = some (.own y) → c ≠ x := fun c y r z => by subst z; rw [r] at mu; exact mu
 have ntup : ∀ c xs, H c = some (.tup xs) → c ≠ x := fun c xs r z => by subst z; rw [r] at mu; exact mu
 by_cases hb : b = x
 ·subst hb; rw [zaal] at q; cases q; exact new
 ·rw [zaa5 hb] at q
  by_cases hbe : b = e
  ·have q' : H b = some (.own x) := by
    rcases he with z | z
    ·exact absurd (hbe.trans z) hb
    ·rw [hbe]; exact z
   rw [q] at q'; cases q'
   obtain ⟨v, hv⟩ := heo
   exact ⟨v, by rw [hbe]; exact hv⟩
  ·refine (ok b u q).stay (fun c v hc r => k c v ?_ r) (fun c r => by rw [zaa5 (nown c b r)]; exact r) fun c xs r => by rw [zaa5 (ntup c xs r)]; exact r
   rcases hc with rfl | hc
   ·exact hbe
   ·rintro rfl
    rcases he with z | z
    ·exact nown c b hc z
    ·rw [hc] at z; cases z; exact hb rfl
end
structure Un (fs ex : List Addr) (H H' : Hp) (h h' : Heap) : Prop where
 keep : ∀ b o, h.get? b = some o → H b = none → b ∉ fs → b ∉ ex → h'.get? b = some o
 slot : ∀ b o, h.get? b = some o → H b = none → b ∈ fs → b ∉ ex → ∃ sl, h'.get? b = some { o with slots := sl }
 free : ∀ b o, h.get? b = some o → H b = none → b ∉ ex → H' b = none
 there : ∀ b o, h.get? b = some o → b ∉ ex → ∃ o', h'.get? b = some o'
 tups : ∀ b xs, H b = some (.tup xs) → H' b = some (.tup xs)
 frzs : ∀ b o u, H b = some (.frz o u) → H' b = some (.frz o u)
 tbls : ∀ b ps, H b = some (.tbl ps) → ∃ more, H' b = some (.tbl (ps ++ more))
section
variable {fs fs' ex ex' : List Addr} {H H1 H2 : Hp} {h h1 h2 h' : Heap} {a x e : Addr} {o : HO}
theorem Un.any (u : Un fs ex H H1 h h1) {b : Addr} {ob : Obj} (q : h.get? b = some ob) (n : H b = none) (hx : b ∉ ex) : ∃ sl, h1.get? b = some { ob with slots := sl } := by
 by_cases hb : b ∈ fs
 ·exact u.slot b ob q n hb hx
 ·exact ⟨ob.slots, u.keep b ob q n hb hx⟩
theorem Un.kept (k : ∀ b u, h.get? b = some u → h'.get? b = some u) : Un fs ex H H h h' :=
 ⟨fun b ob q _ _ _ => k b ob q, fun b ob q _ _ _ => ⟨ob.slots, k b ob q⟩, fun _ _ _ n _ => n, fun b ob q _ => ⟨ob, k b ob q⟩, fun _ _ q => q, fun _ _ _ q => q, fun _ ps q => ⟨#[], by rw [q]; simp⟩⟩
theorem Un.refl : Un fs ex H H h h := Un.kept fun _ _ q => q
theorem Un.laid (k : ∀ b u, h.get? b = some u → h'.get? b = some u) (hp : h.objs.size ≤ a) (hn : H a = none) : Un fs ex H (upd H a o) h h' where
 keep := fun b u q _ _ _ => k b u q
 slot := fun b u q _ _ _ => ⟨u.slots, k b u q⟩
 free := fun b u q n _ => by rw [zaa5 (Nat.ne_of_lt (Nat.lt_of_lt_of_le (Heap.lt_size q) hp))]; exact n
 there := fun b u q _ => ⟨u, k b u q⟩
 tups := fun b xs q => by rw [zaa5 (zabd q hn)]; exact q
 frzs := fun b u xs q => by rw [zaa5 (zabd q hn)]; exact q
 tbls := fun b ps q => ⟨#[], by rw [zaa5 (zabd q hn), q]; simp⟩
theorem Un.write (mu : Mut (H x)) (he : e = x ∨ H e = some (.own x)) (k : ∀ b u, b ≠ e → h.get? b = some u → h'.get? b = some u) (heo : ∃ u, h'.get? e = some u) : Un fs ex H (upd H x o) h h' := by
 have hx : ∀ b, H b = none → b ≠ x := fun b n z => by subst z; rw [n] at mu; exact mu
 have hb : ∀ b, H b = none → b ≠ e := fun b n z => by
  subst z
  rcases he with r | r
  ·exact hx b n r
  ·rw [n] at r; cases r
 have hm : ∀ b u, H b = some u → ¬ Mut (some u) → b ≠ x := fun b u q nm z => by subst z; rw [q] at mu; exact nm mu
 refine ⟨fun b u q n _ _ => k b u (hb b n) q, fun b u q n _ _ => ⟨u.slots, k b u (hb b n) q⟩, fun b u q n _ => by rw [zaa5 (hx b n)]; exact n, fun b u q _ => ?_,
  fun b xs q => by rw [zaa5 (hm b _ q fun z => z)]; exact q, fun b u xs q => by rw [zaa5 (hm b _ q fun z => z)]; exact q, fun b ps q => ⟨#[], by rw [zaa5 (hm b _ q fun z => z), q]; simp⟩⟩
 by_cases hbe : b = e
 ·subst hbe; exact heo
 ·exact ⟨u, k b u hbe q⟩
end
def trk (h : Heap) (H : Hp) : List Addr := (List.range h.objs.size).filter fun a => (H a).isSome
def hidT (h : Heap) (H : Hp) : Heap := PySem.W.hideAll h (trk h H)
theorem zai7 (h : Heap) (H : Hp) : (hidT h H).objs.size = h.objs.size := PySem.W.hideAll_size _ _
theorem zal3 {h : Heap} {H : Hp} {b : Addr} {o : Obj} (e : h.get? b = some o) (n : H b = none) : (hidT h H).get? b = some o :=
 PySem.W.hideAll_get _ e fun hm => by
  have q : (H b).isSome = true := (List.mem_filter.mp hm).2
  rw [n] at q; simp at q
theorem zan4 {h : Heap} {H : Hp} {b : Addr} {o : Obj} (e : (hidT h H).get? b = some o) : h.get? b = some o ∧ H b = none := by
 have e' : h.get? b = some o := PySem.W.of_hideAll (trk h H) e
 refine ⟨e', ?_⟩
 cases q : H b with
 | none => rfl
 | some x =>
  have hm : b ∈ trk h H := List.mem_filter.mpr ⟨List.mem_range.mpr (Heap.lt_size e'), by simp [q]⟩
  have z : (hidT h H).get? b = none := PySem.W.hideAll_none (trk h H) hm
  rw [z] at e; cases e
def allNews (g h : Heap) (L : Addr) : List (Addr × Obj) := (List.range h.objs.size).filterMap fun a => if a = L ∨ (g.get? a).isSome = true then none else (h.get? a).map fun o => (a, o)
def rest (g h : Heap) (L d : Addr) : List (Addr × Obj) := (allNews g h L).filter fun p => decide (p.1 ≠ d)
structure Mod (K : PySem.W.Frag) (mg : Str → Option Value) (base : Heap) : Prop where
 kin : K.In base
 glob : base.Ns mainGlobals mg
 blt : ∃ mb, base.Ns builtinsNs mb ∧ ∀ x : Str, x ≠ "__name__" → mb x = bootBuiltins x
 nolimit : base.NoLimit
structure Cx where
 prog : Program
 w : World
 K : PySem.W.Frag
 mg : Str → Option Value
 base : Heap
 A : Around
 N : List Str
 s₀ : Shared
 H₀ : Hp
 env : Env
 outer : List Env
 stack : List Env
 ex : List Addr
 fn : Str → Bool
 calm : Bool
 pn : List (Addr × Obj)
 xe : Value → Shared → Prop
def frs (l : List Env) : List Addr := l.filterMap (·.frame)
abbrev Cx.fs (X : Cx) : List Addr := frs X.outer
def Vis (sc : Scope) (x : Str) : Prop := sc.names.lookup x = some .local ∨ sc.names.lookup x = some .cell ∨ sc.names.lookup x = some .free
def Loc (sc : Scope) (x : Str) : Prop := sc.names.lookup x = some .local ∨ sc.names.lookup x = some .cell
def Look (env : Env) (h : Heap) (m : Str → Option Value) (x : Str) (u : Value) : Prop :=
 (env.kindOf x = some .local ∧ m x = some u) ∨ ((env.kindOf x = some .cell ∨ env.kindOf x = some .free) ∧ ∃ c, env.cells.lookup x = some c ∧ h.IsCell c (some u))
structure Cx.Ok (X : Cx) : Prop where
 mod : Mod X.K X.mg X.base
 kind : X.env.scope.kind = .function
 glob : X.env.globals = mainGlobals
 blt : X.env.builtins = builtinsNs
 above : X.s₀.heap.objs.size ≤ X.env.locals
 inj : ∀ x y c, X.env.cells.lookup x = some c → X.env.cells.lookup y = some c → x = y
 has : ∀ x, (X.env.kindOf x = some .cell ∨ X.env.kindOf x = some .free) → ∃ c, X.env.cells.lookup x = some c
 cab : ∀ x c, X.fn x = true → X.env.cells.lookup x = some c → X.s₀.heap.objs.size ≤ c
 hd : X.calm = true → X.A.handled = none
 frames : X.A.frames = some X.stack
 stk : X.stack = X.outer ∨ (X.stack = X.env :: X.outer ∧ X.env.frame = some X.env.locals)
 exf : ∀ b ∈ X.ex, b ≠ X.env.locals ∧ ∀ x c, X.env.cells.lookup x = some c → c ≠ b
 bs : ∀ b o, X.base.get? b = some o → X.s₀.heap.get? b = some o ∧ X.H₀ b = none
 bsz : X.base.objs.size ≤ X.s₀.heap.objs.size
 noex : ∀ b o, X.base.get? b = some o → b ∉ X.ex
 exfs : ∀ b ∈ X.ex, b ∉ X.fs
 funs : X.s₀.heap.FunFrames X.base X.outer
 frf : ∀ b ∈ X.fs, X.H₀ b = none
structure Inv (X : Cx) (pins : List (Addr × Obj)) (σ : List (Option V)) (H : Hp) (s : Shared) : Prop where
 ok : X.Ok
 os : s.os = X.s₀.os
 bare : AllBare s.gens
 base : Un X.fs X.ex X.H₀ H X.s₀.heap s.heap
 loc : ∃ m, s.heap.Ns X.env.locals m ∧ ∀ (i : Nat) (x : Str) (v : V), X.N[i]? = some x → σ[i]? = some (some v) → Vis X.env.scope x → ∃ u, RelV v u ∧ Look X.env s.heap m x u
 cell : ∀ x c, X.env.cells.lookup x = some c → ∃ v, s.heap.IsCell c v
 free : H X.env.locals = none
 freeC : ∀ x c, X.env.cells.lookup x = some c → H c = none
 pin : ∀ p ∈ X.pn ++ pins, s.heap.get? p.1 = some p.2 ∧ H p.1 = none ∧ p.1 ≠ X.env.locals ∧ p.1 ∉ X.fs ∧ ∀ v, p.2.data ≠ .cell v
 hok : HOk X.prog X.w H s.heap
 len : σ.length = X.N.length
section
variable {X : Cx} {pins : List (Addr × Obj)} {σ : List (Option V)} {H H' : Hp} {s : Shared} {h' : Heap}
theorem Cx.Ok.nofr (ok : X.Ok) {b : Addr} {o : Obj} (e : X.base.get? b = some o) : b ∉ X.fs := fun hb => by
 have := (ok.funs.mem hb).1
 rw [e] at this; cases this
theorem Inv.bs (I : Inv X pins σ H s) : ∀ b o, X.base.get? b = some o → s.heap.get? b = some o ∧ H b = none := fun b o e =>
 ⟨I.base.keep b o (I.ok.bs b o e).1 (I.ok.bs b o e).2 (I.ok.nofr e) (I.ok.noex b o e), I.base.free b o (I.ok.bs b o e).1 (I.ok.bs b o e).2 (I.ok.noex b o e)⟩
theorem Inv.bk (I : Inv X pins σ H s) : ∀ b o, X.base.get? b = some o → s.heap.get? b = some o := fun b o e => (I.bs b o e).1
theorem Inv.mod (I : Inv X pins σ H s) : Mod X.K X.mg X.base := I.ok.mod
theorem Inv.kIn (I : Inv X pins σ H s) : X.K.In s.heap := I.ok.mod.kin.keeps I.bk
theorem Inv.lt (I : Inv X pins σ H s) : X.env.locals < s.heap.objs.size := let ⟨_, hn, _⟩ := I.loc; hn.lt
theorem Inv.sz (I : Inv X pins σ H s) : X.s₀.heap.objs.size ≤ s.heap.objs.size := Nat.le_trans I.ok.above (Nat.le_of_lt I.lt)
theorem Inv.nofs (I : Inv X pins σ H s) {a : Addr} (h : s.heap.objs.size ≤ a) : a ∉ X.fs := fun hb => by
 obtain ⟨_, o, ho, _⟩ := I.ok.funs.mem hb
 exact absurd (Nat.lt_of_lt_of_le (Heap.lt_size ho) (Nat.le_trans I.sz h)) (Nat.lt_irrefl _)
theorem Inv.cne (I : Inv X pins σ H s) : ∀ x c, X.env.cells.lookup x = some c → c ≠ X.env.locals := fun x c e z => by
 obtain ⟨v, o, ho, hd⟩ := I.cell x c e
 obtain ⟨m, ⟨o', es, ep, ho', hd', _⟩, _⟩ := I.loc
 rw [z, ho'] at ho; cases ho; rw [hd'] at hd; cases hd
theorem Inv.funs (I : Inv X pins σ H s) : s.heap.FunFrames X.base X.outer := by
 have all : ∀ (l : List Env), (∀ b ∈ frs l, b ∈ X.fs) → X.s₀.heap.FunFrames X.base l → s.heap.FunFrames X.base l := by
  intro l
  induction l with
  | nil => intro _ _; trivial
  | cons env r ih =>
   intro hs hl
   obtain ⟨hk, ⟨L, o, hf, hn, ho, hd⟩, hr⟩ := hl
   have hL : L ∈ X.fs := hs L (by unfold frs; rw [List.filterMap_cons, hf]; exact List.mem_cons_self)
   obtain ⟨sl, e⟩ := I.base.slot L o ho (I.ok.frf L hL) hL fun z => I.ok.exfs L z hL
   exact ⟨hk, ⟨L, _, hf, hn, e, hd⟩, ih (fun b hb => hs b (by unfold frs; rw [List.filterMap_cons, hf]; exact List.mem_cons_of_mem _ hb)) hr⟩
 exact all X.outer (fun _ hb => hb) I.ok.funs
theorem Inv.stack (I : Inv X pins σ H s) : s.heap.FunFrames X.base X.stack := by
 rcases I.ok.stk with e | ⟨e, hf⟩
 ·rw [e]; exact I.funs
 ·rw [e]
  obtain ⟨m, hn, _⟩ := I.loc
  refine .cons (by rw [I.ok.kind]; decide) hf hn ?_ I.funs
  exact Heap.get?_none_of_le (Nat.le_trans I.ok.bsz I.ok.above)
theorem Inv.stkSub (I : Inv X pins σ H s) : ∀ b ∈ frs X.stack, b ∈ X.env.locals :: X.fs := fun b hb => by
 rcases I.ok.stk with e | ⟨e, hf⟩
 ·rw [e] at hb; exact List.mem_cons_of_mem _ hb
 ·rw [e] at hb
  unfold frs at hb
  rw [List.filterMap_cons, hf] at hb
  exact hb
theorem Inv.stkFree (I : Inv X pins σ H s) : ∀ b ∈ frs X.stack, H b = none := fun b hb => by
 rcases List.mem_cons.mp (I.stkSub b hb) with e | hb
 ·rw [e]; exact I.free
 ·obtain ⟨_, o, ho, _⟩ := I.ok.funs.mem hb
  exact I.base.free b o ho (I.ok.frf b hb) fun z => I.ok.exfs b z hb
theorem Inv.step {g' : Array GenState} {t' : Nat} {d' : Drawn} {ch : List Addr} (I : Inv X pins σ H s)
  (hch : ∀ b ∈ ch, (b ∈ X.ex ∨ X.s₀.heap.objs.size ≤ b) ∧ b ≠ X.env.locals ∧ (∀ x c, X.env.cells.lookup x = some c → c ≠ b) ∧ ∀ p ∈ X.pn ++ pins, p.1 ≠ b)
  (keep : ∀ b o, b ≠ X.env.locals → b ∉ X.fs → b ∉ ch → s.heap.get? b = some o → H b = none → h'.get? b = some o)
  (slot : ∀ b o, b ≠ X.env.locals → b ∈ X.fs → b ∉ ch → s.heap.get? b = some o → H b = none → ∃ sl, h'.get? b = some { o with slots := sl }) (free : ∀ b o, b ∉ ch → s.heap.get? b = some o → H b = none → H' b = none)
  (there : ∀ b o, b ∉ ch → s.heap.get? b = some o → ∃ o', h'.get? b = some o')
  (tups : ∀ b xs, H b = some (.tup xs) → H' b = some (.tup xs)) (frzs : ∀ b o u, H b = some (.frz o u) → H' b = some (.frz o u)) (tbls : ∀ b ps, H b = some (.tbl ps) → ∃ more, H' b = some (.tbl (ps ++ more)))
  (ns : ∀ m, s.heap.Ns X.env.locals m → h'.Ns X.env.locals m) (hok : HOk X.prog X.w H' h') (hg : AllBare g') :
  Inv X pins σ H' { s with heap := h', gens := g', drawn := d', toks := t' } := by
 have neL : ∀ b o, X.s₀.heap.get? b = some o → b ≠ X.env.locals := fun b o e => Nat.ne_of_lt (Nat.lt_of_lt_of_le (Heap.lt_size e) I.ok.above)
 have neC : ∀ b o, X.s₀.heap.get? b = some o → b ∉ X.ex → b ∉ ch := fun b o e hx hb => by
  rcases (hch b hb).1 with z | z
  ·exact hx z
  ·exact absurd (Nat.lt_of_lt_of_le (Heap.lt_size e) z) (Nat.lt_irrefl _)
 have cellK : ∀ x c, X.env.cells.lookup x = some c → ∀ v, s.heap.IsCell c v → h'.IsCell c v := fun x c e v ⟨o, ho, hd⟩ => by
  have nch : c ∉ ch := fun z => (hch c z).2.2.1 x c e rfl
  by_cases hc : c ∈ X.fs
  ·obtain ⟨sl, q⟩ := slot c o (I.cne x c e) hc nch ho (I.freeC x c e)
   exact ⟨_, q, hd⟩
  ·exact ⟨o, keep c o (I.cne x c e) hc nch ho (I.freeC x c e), hd⟩
 refine ⟨I.ok, I.os, hg, ⟨fun b o e n hb hx => ?_, fun b o e n hb hx => ?_, fun b o e n hx => ?_, fun b o e hx => ?_, fun b xs e => tups b xs (I.base.tups b xs e), fun b o xs e => frzs b o xs (I.base.frzs b o xs e), fun b ps e => ?_⟩, ?_, fun x c e => ?_, ?_, fun x c e => ?_, fun p hp => ?_, hok, I.len⟩
 ·exact keep b o (neL b o e) hb (neC b o e hx) (I.base.keep b o e n hb hx) (I.base.free b o e n hx)
 ·obtain ⟨sl, e1⟩ := I.base.slot b o e n hb hx
  obtain ⟨sl', e2⟩ := slot b _ (neL b o e) hb (neC b o e hx) e1 (I.base.free b o e n hx)
  exact ⟨sl', e2⟩
 ·obtain ⟨o', e1⟩ := I.base.there b o e hx
  exact free b o' (neC b o e hx) e1 (I.base.free b o e n hx)
 ·obtain ⟨o', e1⟩ := I.base.there b o e hx
  exact there b o' (neC b o e hx) e1
 ·obtain ⟨m1, e1⟩ := I.base.tbls b ps e
  obtain ⟨m2, e2⟩ := tbls b _ e1
  exact ⟨m1 ++ m2, by rw [e2, Array.append_assoc]⟩
 ·obtain ⟨m, hn, hl⟩ := I.loc
  refine ⟨m, ns m hn, fun i x v e1 e2 e3 => ?_⟩
  obtain ⟨u, r, l⟩ := hl i x v e1 e2 e3
  refine ⟨u, r, ?_⟩
  rcases l with l | ⟨k, c, e, z⟩
  ·exact .inl l
  ·exact .inr ⟨k, c, e, cellK x c e _ z⟩
 ·obtain ⟨v, z⟩ := I.cell x c e
  exact ⟨v, cellK x c e v z⟩
 ·obtain ⟨m, ⟨o, _, _, ho, _⟩, _⟩ := I.loc
  exact free _ o (fun z => (hch _ z).2.1 rfl) ho I.free
 ·obtain ⟨v, o, ho, hd⟩ := I.cell x c e
  exact free c o (fun z => (hch c z).2.2.1 x c e rfl) ho (I.freeC x c e)
 ·obtain ⟨e, n, ne, nf, d⟩ := I.pin p hp
  have nch : p.1 ∉ ch := fun z => (hch p.1 z).2.2.2 p hp rfl
  exact ⟨keep p.1 p.2 ne nf nch e n, free p.1 p.2 nch e n, ne, nf, d⟩
theorem Inv.un {t' : Nat} (I : Inv X pins σ H s) (u : Un X.fs [] H H' s.heap h') (hok : HOk X.prog X.w H' h') : Inv X pins σ H' { s with heap := h', toks := t' } := by
 obtain ⟨m, ⟨o, es, ep, ho, r⟩, _⟩ := id I.loc
 obtain ⟨sl, hL⟩ := u.any ho I.free (by simp)
 exact I.step (g' := s.gens) (d' := s.drawn) (ch := []) (fun _ z => nomatch z) (fun b o _ hb _ e n => u.keep b o e n hb (by simp)) (fun b o _ hb _ e n => u.slot b o e n hb (by simp)) (fun b o _ e n => u.free b o e n (by simp)) (fun b o _ e => u.there b o e (by simp)) u.tups u.frzs u.tbls (fun m' hm => by
  obtain ⟨o', es', ep', ho', r'⟩ := hm
  rw [ho] at ho'; cases ho'
  exact ⟨_, es', ep', hL, r'⟩) hok I.bare
theorem Inv.call {g' : Array GenState} {t' : Nat} {d' : Drawn} {ch : List Addr} (I : Inv X pins σ H s) (u : Un (frs X.stack) ch H H' s.heap h') (hok : HOk X.prog X.w H' h') (hg : AllBare g')
  (hch : ∀ b ∈ ch, (b ∈ X.ex ∨ X.s₀.heap.objs.size ≤ b) ∧ b ≠ X.env.locals ∧ (∀ x c, X.env.cells.lookup x = some c → c ≠ b) ∧ ∀ p ∈ X.pn ++ pins, p.1 ≠ b) :
  Inv X pins σ H' { s with heap := h', gens := g', drawn := d', toks := t' } := by
 obtain ⟨m, ⟨o, es, ep, ho, r⟩, _⟩ := id I.loc
 obtain ⟨sl, hL⟩ := u.any ho I.free fun z => (hch _ z).2.1 rfl
 exact I.step (ch := ch) hch (fun b o hL hb hc e n => u.keep b o e n (fun z => (List.mem_cons.mp (I.stkSub b z)).elim hL hb) hc) (fun b o _ _ hc e n => u.any e n hc) (fun b o hc e n => u.free b o e n hc) (fun b o hc e => u.there b o e hc) u.tups u.frzs u.tbls (fun m' hm => by
  obtain ⟨o', es', ep', ho', r'⟩ := hm
  rw [ho] at ho'; cases ho'
  exact ⟨_, es', ep', hL, r'⟩) hok hg
theorem Inv.turned {t' : Nat} {it : Addr} (I : Inv X pins σ H s) (k : ∀ b o, b ≠ it → s.heap.get? b = some o → h'.get? b = some o) (hn : H it = none) (hL : it ≠ X.env.locals)
  (h1 : it ∈ X.ex ∨ X.s₀.heap.objs.size ≤ it) (h2 : ∀ x c, X.env.cells.lookup x = some c → c ≠ it) (h3 : ∀ p ∈ X.pn ++ pins, p.1 ≠ it) : Inv X pins σ H { s with heap := h', toks := t' } := by
 have nit : ∀ b u, H b = some u → b ≠ it := fun b u e z => by rw [z, hn] at e; cases e
 refine I.step (g' := s.gens) (d' := s.drawn) (ch := [it]) (fun b hb => ?_) (fun b o _ _ hc e _ => k b o (fun z => hc (by simp [z])) e) (fun b o _ _ hc e _ => ⟨o.slots, k b o (fun z => hc (by simp [z])) e⟩) (fun _ _ _ _ n => n)
  (fun b o hc e => ⟨o, k b o (fun z => hc (by simp [z])) e⟩) (fun _ _ e => e) (fun _ _ _ e => e) (fun b ps e => ⟨#[], by rw [e]; simp⟩) (fun m hm => ?_) (fun b u e => ?_) I.bare
 ·have e : b = it := by simpa using hb
  subst e
  exact ⟨h1, hL, h2, h3⟩
 ·obtain ⟨o, es, ep, ho, r⟩ := hm
  exact ⟨o, es, ep, k _ o (Ne.symm hL) ho, r⟩
 ·refine (I.hok b u e).stay (fun c v hc q => k c v ?_ q) (fun _ q => q) fun _ _ q => q
  rcases hc with z | z
  ·rw [z]; exact nit b u e
  ·exact nit c _ z
theorem Inv.tok (I : Inv X pins σ H s) (t : Nat) : Inv X pins σ H { s with toks := t } := I.un (h' := s.heap) (t' := t) Un.refl I.hok
theorem Inv.kept {t' : Nat} (I : Inv X pins σ H s) (k : ∀ b u, s.heap.get? b = some u → h'.get? b = some u) : Inv X pins σ H { s with heap := h', toks := t' } := I.un (Un.kept k) (I.hok.kept k)
theorem Inv.laid {a : Addr} {o : HO} {t' : Nat} (I : Inv X pins σ H s) (k : ∀ b u, s.heap.get? b = some u → h'.get? b = some u) (hp : s.heap.objs.size ≤ a) (new : ObjOk X.prog X.w (upd H a o) h' a o) :
  Inv X pins σ (upd H a o) { s with heap := h', toks := t' } := I.un (Un.laid k hp (I.hok.fresh hp)) (I.hok.laid k hp new)
theorem Inv.write {x e : Addr} {o : HO} {t' : Nat} (I : Inv X pins σ H s) (mu : Mut (H x)) (he : e = x ∨ H e = some (.own x)) (k : ∀ b u, b ≠ e → s.heap.get? b = some u → h'.get? b = some u) (heo : ∃ u, h'.get? e = some u)
  (new : ObjOk X.prog X.w (upd H x o) h' x o) : Inv X pins σ (upd H x o) { s with heap := h', toks := t' } := I.un (Un.write mu he k heo) (I.hok.write mu he k heo new)
theorem Inv.pins_of {pins' : List (Addr × Obj)} (I : Inv X pins σ H s) (h : ∀ p ∈ pins', s.heap.get? p.1 = some p.2 ∧ H p.1 = none ∧ p.1 ≠ X.env.locals ∧ p.1 ∉ X.fs ∧ ∀ v, p.2.data ≠ .cell v) : Inv X pins' σ H s :=
 ⟨I.ok, I.os, I.bare, I.base, I.loc, I.cell, I.free, I.freeC, fun p hp => (List.mem_append.mp hp).elim (fun z => I.pin p (List.mem_append_left _ z)) (h p), I.hok, I.len⟩
theorem zae7 {N : List Str} (hN : N.Nodup) {i j : Nat} {x : Str} (a : N[i]? = some x) (b : N[j]? = some x) : i = j := by
 obtain ⟨h1, e1⟩ := List.getElem?_eq_some_iff.mp a
 obtain ⟨h2, e2⟩ := List.getElem?_eq_some_iff.mp b
 exact (List.getElem_inj hN).mp (e1.trans e2.symm)
theorem zagc {M : Model} {A : Around} {E : Value → Shared → Prop} {i : Nat} {x : Str} {v : V} {u : Value} {Q : Unit → Shared → Prop} (I : Inv X pins σ H s) (hN : X.N.Nodup) (hi : X.N[i]? = some x) (hx : Loc X.env.scope x) (r : RelV v u)
  (h : ∀ s', Inv X pins (σ.set i (some v)) H s' → (∃ a, Heap.SameBut a s.heap s'.heap ∧ (a = X.env.locals ∨ X.env.cells.lookup x = some a)) → Q () s') (hf : X.fn x = true ∨ X.env.scope.names.lookup x = some .local := by first | exact .inl rfl | exact .inr rfl | assumption) : wpAny M A (storeName X.env x u) Q E s := by
 obtain ⟨m, hn, hl⟩ := id I.loc
 have hcls : (X.env.scope.kind == .class || (X.env.scope.kind == .module && X.env.locals != X.env.globals)) = false := by rw [I.ok.kind]; rfl
 have hiσ : i < σ.length := by rw [I.len]; exact (List.getElem?_eq_some_iff.mp hi).1
 have cne := I.cne
 have tracked : ∀ {a : Addr} {h' : Heap}, (∃ o, s.heap.get? a = some o ∧ H a = none) → Heap.SameBut a s.heap h' → HOk X.prog X.w H h' := fun {a h'} ha hs b ob e => by
  obtain ⟨_, _, hfree⟩ := ha
  refine (I.hok b ob e).stay (fun c w' hc q => (hs.2 c ?_).trans q) (fun _ q => q) fun _ _ q => q
  rintro rfl
  rcases hc with rfl | hc
  ·rw [hfree] at e; cases e
  ·rw [hfree] at hc; cases hc
 rcases hx with hk | hk
 ·refine wpAny_storeName_local hk hn (fun h' hn' hs => ?_) hcls
  obtain ⟨oL, _, _, hoL, _⟩ := id hn
  refine h _ ⟨I.ok, I.os, I.bare, ⟨fun b o e n hb hx => ?_, fun b o e n hb hx => ?_, I.base.free, fun b o e hx => ?_, I.base.tups, I.base.frzs, I.base.tbls⟩, ⟨_, hn', fun j y v' e1 e2 e3 => ?_⟩, fun y c e => ?_, I.free, I.freeC, fun p hp => ?_, tracked ⟨oL, hoL, I.free⟩ hs, by simpa using I.len⟩ ⟨_, hs, .inl rfl⟩
  ·exact (hs.2 b (Nat.ne_of_lt (Nat.lt_of_lt_of_le (Heap.lt_size e) I.ok.above))).trans (I.base.keep b o e n hb hx)
  ·obtain ⟨sl, e1⟩ := I.base.slot b o e n hb hx
   exact ⟨sl, (hs.2 b (Nat.ne_of_lt (Nat.lt_of_lt_of_le (Heap.lt_size e) I.ok.above))).trans e1⟩
  ·obtain ⟨o', e1⟩ := I.base.there b o e hx
   exact ⟨o', (hs.2 b (Nat.ne_of_lt (Nat.lt_of_lt_of_le (Heap.lt_size e) I.ok.above))).trans e1⟩
  ·by_cases hj : j = i
   ·subst hj
    rw [hi] at e1; cases e1
    rw [List.getElem?_set_self hiσ] at e2
    cases e2
    exact ⟨u, r, .inl ⟨hk, by simp⟩⟩
   ·rw [List.getElem?_set_ne (Ne.symm hj)] at e2
    obtain ⟨u', r', q⟩ := hl j y v' e1 e2 e3
    refine ⟨u', r', ?_⟩
    rcases q with ⟨k, e⟩ | ⟨k, c, e, z⟩
    ·refine .inl ⟨k, ?_⟩
     have : y ≠ x := fun e => hj (zae7 hN e1 (e ▸ hi))
     simp [this, e]
    ·exact .inr ⟨k, c, e, z.sameBut hs (cne y c e)⟩
  ·obtain ⟨w', z⟩ := I.cell y c e
   exact ⟨w', z.sameBut hs (cne y c e)⟩
  ·obtain ⟨e, n, ne, nf, d⟩ := I.pin p hp
   exact ⟨(hs.2 p.1 ne).trans e, n, ne, nf, d⟩
 ·have hfn : X.fn x = true := by
   rcases hf with z | z
   ·exact z
   ·rw [z] at hk; cases hk
  obtain ⟨c, hc⟩ := I.ok.has x (.inl hk)
  obtain ⟨w', z⟩ := I.cell x c hc
  refine wpAny_storeName_cell I.ok.kind hk hc z (fun h' hc' hs => ?_)
  obtain ⟨oc, hoc, hocd⟩ := id z
  refine h { s with heap := h' } ⟨I.ok, I.os, I.bare, ⟨fun b o e n hb hx => ?_, fun b o e n hb hx => ?_, I.base.free, fun b o e hx => ?_, I.base.tups, I.base.frzs, I.base.tbls⟩, ⟨m, hn.sameBut hs (Ne.symm (cne x c hc)), fun j y v' e1 e2 e3 => ?_⟩, fun y c' e => ?_, I.free, I.freeC, fun p hp => ?_, tracked ⟨oc, hoc, I.freeC x c hc⟩ hs, by simpa using I.len⟩ ⟨c, hs, .inr hc⟩
  ·exact (hs.2 b (Nat.ne_of_lt (Nat.lt_of_lt_of_le (Heap.lt_size e) (I.ok.cab x c hfn hc)))).trans (I.base.keep b o e n hb hx)
  ·obtain ⟨sl, e1⟩ := I.base.slot b o e n hb hx
   exact ⟨sl, (hs.2 b (Nat.ne_of_lt (Nat.lt_of_lt_of_le (Heap.lt_size e) (I.ok.cab x c hfn hc)))).trans e1⟩
  ·obtain ⟨o', e1⟩ := I.base.there b o e hx
   exact ⟨o', (hs.2 b (Nat.ne_of_lt (Nat.lt_of_lt_of_le (Heap.lt_size e) (I.ok.cab x c hfn hc)))).trans e1⟩
  ·by_cases hj : j = i
   ·subst hj
    rw [hi] at e1; cases e1
    rw [List.getElem?_set_self hiσ] at e2
    cases e2
    exact ⟨u, r, .inr ⟨.inl hk, c, hc, hc'⟩⟩
   ·rw [List.getElem?_set_ne (Ne.symm hj)] at e2
    obtain ⟨u', r', q⟩ := hl j y v' e1 e2 e3
    refine ⟨u', r', ?_⟩
    rcases q with q | ⟨k, c', e, z'⟩
    ·exact .inl q
    ·refine .inr ⟨k, c', e, z'.sameBut hs ?_⟩
     rintro rfl
     exact hj (zae7 hN e1 (I.ok.inj _ _ _ e hc ▸ hi))
  ·by_cases hcc : c' = c
   ·subst hcc; exact ⟨_, hc'⟩
   ·obtain ⟨w2, z2⟩ := I.cell y c' e
    exact ⟨w2, z2.sameBut hs hcc⟩
  ·obtain ⟨e, n, ne, nf, d⟩ := I.pin p hp
   refine ⟨(hs.2 p.1 ?_).trans e, n, ne, nf, d⟩
   intro q
   rw [q, hoc] at e
   have q' : oc = p.2 := Option.some.inj e
   exact d w' (by rw [← q']; exact hocd)
theorem zae8 {M : Model} {A : Around} {E : Value → Shared → Prop} {i : Nat} {x : Str} {v : V} {u : Value} {Q : Unit → Shared → Prop} (I : Inv X pins σ H s) (hN : X.N.Nodup) (hi : X.N[i]? = some x) (hx : Loc X.env.scope x) (r : RelV v u)
  (h : ∀ s', Inv X pins (σ.set i (some v)) H s' → Q () s') (hf : X.fn x = true ∨ X.env.scope.names.lookup x = some .local := by first | exact .inl rfl | exact .inr rfl | assumption) : wpAny M A (storeName X.env x u) Q E s :=
 zagc I hN hi hx r (fun s' I' _ => h s' I') hf
theorem Inv.call' {s' : Shared} {ch : List Addr} (I : Inv X pins σ H s) (ho : s'.os = s.os) (u : Un (frs X.stack) ch H H' s.heap s'.heap) (hok : HOk X.prog X.w H' s'.heap) (hg : AllBare s'.gens)
  (hch : ∀ b ∈ ch, (b ∈ X.ex ∨ X.s₀.heap.objs.size ≤ b) ∧ b ≠ X.env.locals ∧ (∀ x c, X.env.cells.lookup x = some c → c ≠ b) ∧ ∀ p ∈ X.pn ++ pins, p.1 ≠ b) : Inv X pins σ H' s' := by
 obtain ⟨h', g', d', t', o'⟩ := s'
 have e : o' = s.os := ho
 subst e
 exact I.call (g' := g') (t' := t') (d' := d') u hok hg hch
end
abbrev XK := Value → Option Addr → Hp → Prop
abbrev St := List (Option V)
abbrev VK := V → Hp → Prop
abbrev TE := St → Hp → VK → Prop
abbrev TT := St → Hp → (Bool → Hp → Prop) → Prop
abbrev TA := St → Hp → (List V → Hp → Prop) → Prop
structure Ends where
 nx : St → Hp → Prop
 rt : VK
 bk : St → Hp → Prop := fun _ _ => False
 ct : St → Hp → Prop := fun _ _ => False
abbrev TS := Ends → St → Hp → Prop
def EP (X : Cx) (pins : List (Addr × Obj)) (σ : St) (Q : VK) (u : Value) (s' : Shared) : Prop := ∃ v H', Inv X pins σ H' s' ∧ RelV v u ∧ Q v H'
def TP (X : Cx) (pins : List (Addr × Obj)) (σ : St) (Q : Bool → Hp → Prop) (b : Bool) (s' : Shared) : Prop := ∃ H', Inv X pins σ H' s' ∧ Q b H'
def AP (X : Cx) (pins : List (Addr × Obj)) (σ : St) (Q : List V → Hp → Prop) (us : List Value) (s' : Shared) : Prop := ∃ vs H', Inv X pins σ H' s' ∧ Vals vs us ∧ Q vs H'
def SP (X : Cx) (pins : List (Addr × Obj)) (D : Ends) (f : Flow) (s' : Shared) : Prop :=
 match f with
 | .next => ∃ σ' H', Inv X pins σ' H' s' ∧ D.nx σ' H'
 | .brk => ∃ σ' H', Inv X pins σ' H' s' ∧ D.bk σ' H'
 | .cont => ∃ σ' H', Inv X pins σ' H' s' ∧ D.ct σ' H'
 | .ret u => ∃ v σ' H', Inv X pins σ' H' s' ∧ RelV v u ∧ D.rt v H'
def PE (X : Cx) (e : Expr) (t : TE) : Prop :=
 ∀ (pins : List (Addr × Obj)) (s : Shared) (σ : St) (H : Hp) (Q : VK), Inv X pins σ H s → t σ H Q → wpAny (model X.prog X.w) X.A (eval e X.env) (EP X pins σ Q) X.xe s
def PT (X : Cx) (e : Expr) (t : TT) : Prop :=
 ∀ (pins : List (Addr × Obj)) (s : Shared) (σ : St) (H : Hp) (Q : Bool → Hp → Prop), Inv X pins σ H s → t σ H Q → wpAny (model X.prog X.w) X.A (isTrue e X.env (eval e X.env)) (TP X pins σ Q) X.xe s
def PW (X : Cx) (e : Expr) (t : TT) : Prop :=
 ∀ (whole : Sem Value) (pins : List (Addr × Obj)) (s : Shared) (σ : St) (H : Hp) (Q : Bool → Hp → Prop), Inv X pins σ H s → t σ H Q → wpAny (model X.prog X.w) X.A (isTrue e X.env whole) (TP X pins σ Q) X.xe s
theorem PW.pt {X : Cx} {e : Expr} {t : TT} (h : PW X e t) : PT X e t := h _
def PA (X : Cx) (es : List Expr) (t : TA) : Prop :=
 ∀ (pos : Pos) (pins : List (Addr × Obj)) (s : Shared) (σ : St) (H : Hp) (Q : List V → Hp → Prop), Inv X pins σ H s → t σ H Q → wpAny (model X.prog X.w) X.A (spliced (backTo pos (starEach es X.env))) (AP X pins σ Q) X.xe s
def PS (X : Cx) (st : Stmt) (t : TS) : Prop :=
 ∀ (pins : List (Addr × Obj)) (s : Shared) (σ : St) (H : Hp) (D : Ends), Inv X pins σ H s → t D σ H → wpAny (model X.prog X.w) X.A (exec st X.env) (SP X pins D) X.xe s
def PSs (X : Cx) (st : List Stmt) (t : TS) : Prop :=
 ∀ (pins : List (Addr × Obj)) (s : Shared) (σ : St) (H : Hp) (D : Ends), Inv X pins σ H s → t D σ H → wpAny (model X.prog X.w) X.A (execs st X.env) (SP X pins D) X.xe s
theorem thn {α : Type} {t : Sem α} {Q Q' : α → Shared → Prop} {M : Model} {A : Around} {E : Value → Shared → Prop} {s : Shared} (h : wpAny M A t Q E s) (hQ : ∀ a s, Q a s → Q' a s) : wpAny M A t Q' E s := wpAny_mono h hQ fun _ _ x => x
section
variable {X : Cx}
def tVar (i : Nat) : TE := fun σ H Q => ∃ v, σ[i]? = some (some v) ∧ Q v H
def tC (v : V) : TE := fun _ H Q => Q v H
theorem zap6 {i : Nat} {x : Str} {pos : Pos} (hN : X.N[i]? = some x) (hv : Vis X.env.scope x) (hd : (x == ("__debug__" : Str)) = false := by decide) (hcd : (x == ("__classdict__" : Str)) = false := by decide) : PE X (.Name x pos) (tVar i) := by
 intro pins s σ H Q I h
 obtain ⟨v, e, h⟩ := h
 obtain ⟨m, hn, hl⟩ := I.loc
 obtain ⟨u, r, l⟩ := hl i x v hN e hv
 have fin : EP X pins σ Q u s := ⟨v, H, I, r, h⟩
 rcases l with ⟨hk, hm⟩ | ⟨hk, c, hc, hcell⟩
 ·exact wpAny_Name (wpAny_loadName_local I.ok.kind hk hn hm fin) hd
 ·rcases hk with hk | hk
  ·exact wpAny_Name (wpAny_loadName_cell I.ok.kind hk hc hcell fin) hd
  ·exact wpAny_Name (wpAny_loadName_free I.ok.kind hk hc hcell fin hcd) hd
theorem zap7 {i j pos} : PE X (.Constant (.int i) j pos) (tC (.int i)) := fun _ _ _ H _ I h => wpAny_Constant_int ⟨.int i, H, I.tok _, ⟨_, rfl⟩, h⟩
theorem zari {b j pos} : PE X (.Constant (.bool b) j pos) (tC (.bl b)) := fun _ _ _ H _ I h => Constant_bool ⟨.bl b, H, I, rfl, h⟩
theorem zap8 {j pos} : PE X (.Constant .none j pos) (tC .non) := fun _ _ _ H _ I h => Constant_none ⟨.non, H, I, rfl, h⟩
theorem zap9 {x j pos} : PE X (.Constant (.str x) j pos) (tC (.str x)) := fun _ _ _ H _ I h => Calls.Constant_str ⟨.str x, H, I.tok _, ⟨_, rfl⟩, h⟩
def Gl (X : Cx) (x : Str) : Prop := X.env.kindOf x = some .globalImplicit
theorem zada {E : Value → Shared → Prop} {pins : List (Addr × Obj)} {s : Shared} {σ : St} {H : Hp} {x : Str} {u : Value} {pos : Pos} {Q : Value → Shared → Prop} (I : Inv X pins σ H s) (hg : Gl X x) (hm : X.mg x = some u) (h : Q u s)
  (hd : (x == ("__debug__" : Str)) = false := by decide) : wpAny (model X.prog X.w) X.A (eval (.Name x pos) X.env) Q E s :=
 Calls.Name_function_global I.ok.kind hg (Calls.loadGlobal_global (by rw [I.ok.glob]; exact I.mod.glob.keeps I.bk) hm h) hd
theorem zaet {E : Value → Shared → Prop} {pins : List (Addr × Obj)} {s : Shared} {σ : St} {H : Hp} {x : Str} {u : Value} {pos : Pos} {Q : Value → Shared → Prop} (I : Inv X pins σ H s) (hg : Gl X x) (hm : X.mg x = none) (hv : bootBuiltins x = some u) (h : Q u s)
  (hn : x ≠ "__name__" := by decide) (hd : (x == ("__debug__" : Str)) = false := by decide) : wpAny (model X.prog X.w) X.A (eval (.Name x pos) X.env) Q E s := by
 obtain ⟨mb, h1, h2⟩ := I.mod.blt
 exact Calls.Name_function_global I.ok.kind hg (Calls.loadGlobal_builtin (by rw [I.ok.glob]; exact I.mod.glob.keeps I.bk) hm (by rw [I.ok.blt]; exact h1.keeps I.bk) ((h2 x hn).trans hv) h) hd
theorem zan5 {x : Str} {v : V} {u : Value} {pos : Pos} (hg : Gl X x) (hm : X.mg x = some u) (r : RelV v u) (hd : (x == ("__debug__" : Str)) = false := by decide) : PE X (.Name x pos) (tC v) :=
 fun _ _ _ H _ I h => zada I hg hm ⟨v, H, I, r, h⟩ hd
theorem zan6 {x : Str} {v : V} {u : Value} {pos : Pos} (hg : Gl X x) (hm : X.mg x = none) (hv : bootBuiltins x = some u) (r : RelV v u) (hn : x ≠ "__name__" := by decide) (hd : (x == ("__debug__" : Str)) = false := by decide) : PE X (.Name x pos) (tC v) :=
 fun _ _ _ H _ I h => zaet I hg hm hv ⟨v, H, I, r, h⟩ hn hd
def t2I (ta tb : TE) (k : Int → Int → Hp → Prop) : St → Hp → Prop := fun σ H => ta σ H fun x H1 => tb σ H1 fun y H2 => ∃ i j, x = .int i ∧ y = .int j ∧ k i j H2
def tAdd (ta tb : TE) : TE := fun σ H Q => t2I ta tb (fun i j H2 => Q (.int (i + j)) H2) σ H
def tSub (ta tb : TE) : TE := fun σ H Q => t2I ta tb (fun i j H2 => Q (.int (i - j)) H2) σ H
def tMul (ta tb : TE) : TE := fun σ H Q => t2I ta tb (fun i j H2 => (-(2 ^ 64) < i ∧ i < 2 ^ 64) ∧ Q (.int (i * j)) H2) σ H
variable {a b : Expr} {ta tb : TE} {pos : Pos}
def PC (X : Cx) (op : CmpOp) (a b : Expr) (t : TE) : Prop :=
 ∀ (pins : List (Addr × Obj)) (s : Shared) (σ : St) (H : Hp) (Q : VK), Inv X pins σ H s → t σ H Q →
  wpAny (model X.prog X.w) X.A (eval a X.env) (fun v s₁ => wpAny (model X.prog X.w) X.A (eval b X.env) (fun u s₂ => wpAny (model X.prog X.w) X.A (compareOp op v u) (EP X pins σ Q) X.xe s₂) X.xe s₁) X.xe s
def tCmp (p : Int → Int → Bool) (ta tb : TE) : TE := fun σ H Q => t2I ta tb (fun i j H2 => Q (.bl (p i j)) H2) σ H
abbrev tLt : TE → TE → TE := tCmp fun i j => decide (i < j)
abbrev tLe : TE → TE → TE := tCmp fun i j => decide (i ≤ j)
abbrev tGt : TE → TE → TE := tCmp fun i j => decide (j < i)
abbrev tGe : TE → TE → TE := tCmp fun i j => decide (j ≤ i)
abbrev tEqI : TE → TE → TE := tCmp fun i j => decide (i = j)
abbrev tNeI : TE → TE → TE := tCmp fun i j => !decide (i = j)
def tIsN (ta : TE) : TE := fun σ H Q => ta σ H fun x H1 => Q (.bl (decide (x = .non))) H1
def tNotN (ta : TE) : TE := fun σ H Q => ta σ H fun x H1 => Q (.bl (!decide (x = .non))) H1
def tB (t : TE) : TT := fun σ H Q => t σ H fun x H1 => ∃ c, x = .bl c ∧ Q c H1
theorem zaqa {e : Expr} {t : TE} (h : PE X e t) (he : ∀ whole, isTrue e X.env whole = (do let v ← whole; standAt e.pos; holding [v] (truthy v)) := by intro _; rfl) : PT X e (tB t) := by
 intro pins s σ H Q I hw
 refine isTrue_plain (thn (h pins s σ H _ I hw) fun v s1 ⟨x, H1, I1, r1, q1⟩ => ?_) (he _)
 obtain ⟨d, rfl, q⟩ := q1
 cases r1
 exact wpAny_truthy_bool ⟨H1, I1, q⟩
variable {tA tB' : TT} {rest : List Expr}
def tAnd (t u : TT) : TT := fun σ H Q => t σ H fun c H1 => if c = true then u σ H1 Q else Q false H1
def tOr (t u : TT) : TT := fun σ H Q => t σ H fun c H1 => if c = true then Q true H1 else u σ H1 Q
def tNot (t : TT) : TT := fun σ H Q => t σ H fun c H1 => Q (!c) H1
theorem zan7 (ha : PT X a tA) : PW X (.BoolOp .And [a] pos) tA := by
 intro wh pins s σ H Q I h
 refine isTrue_and (thn (ha pins s σ H Q I h) fun c s1 e => ?_)
 cases c with
 | true => exact isTrue_and_nil e
 | false => exact e
theorem zaqb (ha : PT X a tA) : PW X (.BoolOp .Or [a] pos) tA := by
 intro wh pins s σ H Q I h
 refine isTrue_or (thn (ha pins s σ H Q I h) fun c s1 e => ?_)
 cases c with
 | false => exact isTrue_or_nil e
 | true => exact e
theorem zaqc (ha : PT X a tA) (hb : PW X (.BoolOp .And (b :: rest) pos) tB') : PW X (.BoolOp .And (a :: b :: rest) pos) (tAnd tA tB') := by
 intro wh pins s σ H Q I h
 refine isTrue_and (thn (ha pins s σ H _ I h) fun c s1 ⟨H1, I1, q1⟩ => ?_)
 cases c with
 | true => exact hb wh pins s1 σ H1 Q I1 q1
 | false => exact ⟨H1, I1, q1⟩
theorem zarj (ha : PT X a tA) (hb : PW X (.BoolOp .Or (b :: rest) pos) tB') : PW X (.BoolOp .Or (a :: b :: rest) pos) (tOr tA tB') := by
 intro wh pins s σ H Q I h
 refine isTrue_or (thn (ha pins s σ H _ I h) fun c s1 ⟨H1, I1, q1⟩ => ?_)
 cases c with
 | true => exact ⟨H1, I1, q1⟩
 | false => exact hb wh pins s1 σ H1 Q I1 q1
theorem zaqd (ha : PT X a tA) : PT X (.UnaryOp .Not a pos) (tNot tA) := by
 intro pins s σ H Q I h
 exact isTrue_not (ha pins s σ H (fun c H1 => Q (!c) H1) I h)
def tAndV (ta tb : TE) : TE := fun σ H Q => ta σ H fun x H1 => ∃ c, x = .bl c ∧ if c = true then tb σ H1 Q else Q (.bl false) H1
def tOrV (ta tb : TE) : TE := fun σ H Q => ta σ H fun x H1 => ∃ c, x = .bl c ∧ if c = true then Q (.bl true) H1 else tb σ H1 Q
def tNotV (ta : TE) : TE := fun σ H Q => ta σ H fun x H1 => ∃ c, x = .bl c ∧ Q (.bl (!c)) H1
theorem zaqe {op} {t : TE} (h : PE X a t) : PE X (.BoolOp op [a] pos) t := fun pins s σ H Q I hw => BoolOp_one (h pins s σ H Q I hw)
theorem zaqf (ha : PE X a ta) (hb : PE X (.BoolOp .And (b :: rest) pos) tb) : PE X (.BoolOp .And (a :: b :: rest) pos) (tAndV ta tb) := by
 intro pins s σ H Q I h
 refine BoolOp_and (thn (ha pins s σ H _ I h) fun v s1 ⟨x, H1, I1, r1, q1⟩ => ?_)
 obtain ⟨c, rfl, q1⟩ := q1
 cases r1
 refine wpAny_truthy_bool ?_
 cases c with
 | true => exact hb pins s1 σ H1 Q I1 q1
 | false => exact ⟨.bl false, H1, I1, rfl, q1⟩
theorem zaqg (ha : PE X a ta) : PE X (.UnaryOp .Not a pos) (tNotV ta) := by
 intro pins s σ H Q I h
 refine UnaryOp_ (thn (ha pins s σ H _ I h) fun v s1 ⟨x, H1, I1, r1, q1⟩ => ?_)
 obtain ⟨c, rfl, q1⟩ := q1
 cases r1
 exact not_of (wpAny_truthy_bool ⟨.bl (!c), H1, I1, rfl, q1⟩)
def tIf (t : TT) (ta tb : TE) : TE := fun σ H Q => t σ H fun c H1 => if c = true then ta σ H1 Q else tb σ H1 Q
theorem zal4 {c : Expr} (hc : PT X c tA) (ha : PE X a ta) (hb : PE X b tb) : PE X (.IfExp c a b pos) (tIf tA ta tb) := by
 intro pins s σ H Q I h
 refine wpAny_IfExp (thn (hc pins s σ H _ I h) fun d s1 ⟨H1, I1, q1⟩ => ?_)
 cases d with
 | true => exact ha pins s1 σ H1 Q I1 q1
 | false => exact hb pins s1 σ H1 Q I1 q1
end
def SqL (K : PySem.W.Frag) (H : Hp) (a : Addr) (xs : List V) : Prop :=
 Rd H a (.lst xs) ∨
  ∃ (o : Obj) (its : Array Value) (n : Nat), K.lookup a = some o ∧ o.cls = .type "list" ∧ o.dict = none ∧ o.data = .seq its n ∧ its.size ≤ sizeLine ∧ Vals xs its.toList
def SqT (K : PySem.W.Frag) (H : Hp) (a : Addr) (xs : List V) : Prop :=
 Rd H a (.tup xs) ∨
  ∃ (o : Obj) (its : Array Value) (n : Nat), K.lookup a = some o ∧ o.cls = .type "tuple" ∧ o.data = .seq its n ∧ its.size ≤ sizeLine ∧ Vals xs its.toList
def absV : Value → Option V
 | .none => some .non
 | .bool b => some (.bl b)
 | .int i _ => some (.int i)
 | .str x _ => some (.str x)
 | .bytes b _ => some (.byt b)
 | .float b _ => some (.flt b)
 | .ref a => some (.ref a)
 | .type n => some (.ty n)
 | _ => none
theorem RelV.abs {x : V} {u : Value} (r : RelV x u) : absV u = some x := by
 cases x with
 | non => cases r; rfl
 | bl _ => cases r; rfl
 | int _ => obtain ⟨t, rfl⟩ := r; rfl
 | str _ => obtain ⟨t, rfl⟩ := r; rfl
 | byt _ => obtain ⟨t, rfl⟩ := r; rfl
 | flt _ => obtain ⟨t, rfl⟩ := r; rfl
 | ref _ => cases r; rfl
 | ty _ => cases r; rfl
theorem RelV.inj {x y : V} {u : Value} (r : RelV x u) (q : RelV y u) : x = y := Option.some.inj (r.abs.symm.trans q.abs)
theorem Vals.inj : ∀ {xs ys : List V} {us : List Value}, Vals xs us → Vals ys us → xs = ys
 | _, _, _, .nil, .nil => rfl
 | _, _, _, .cons r t, .cons r' t' => by rw [r.inj r', Vals.inj t t']
section
variable {X : Cx} {pins : List (Addr × Obj)} {σ : St} {H : Hp} {s : Shared} {a : Addr} {xs ys : List V}
theorem SqL.of {K : PySem.W.Frag} (h : H a = some (.lst xs)) : SqL K H a xs := .inl (.inl h)
theorem SqT.of {K : PySem.W.Frag} (h : H a = some (.tup xs)) : SqT K H a xs := .inl (.inl h)
theorem Inv.list (I : Inv X pins σ H s) (h : SqL X.K H a xs) : ∃ its : List Value, Vals xs its ∧ PlainL s.heap a its.toArray ∧ xs.length ≤ sizeLine := by
 rcases h with h | ⟨o, its, n, hk, hc, hd, hs, hz, r⟩
 ·obtain ⟨z, its, n, r, e⟩ := h.ok I.hok
  exact ⟨its, r, ⟨_, n, e, rfl, rfl, rfl⟩, z⟩
 ·refine ⟨its.toList, r, ⟨o, n, I.kIn a o hk, hc, hd, by simpa using hs⟩, ?_⟩
  have e := r.length
  simp only [Array.length_toList] at e
  omega
theorem Inv.tuple (I : Inv X pins σ H s) (h : SqT X.K H a xs) : ∃ its : List Value, Vals xs its ∧ IsTup s.heap a its.toArray ∧ xs.length ≤ sizeLine := by
 rcases h with h | ⟨o, its, n, hk, hc, hs, hz, r⟩
 ·obtain ⟨z, its, r, p⟩ := h.ok I.hok
  exact ⟨its, r, p, z⟩
 ·refine ⟨its.toList, r, ⟨o, I.kIn a o hk, hc, n, by simpa using hs⟩, ?_⟩
  have e := r.length
  simp only [Array.length_toList] at e
  omega
theorem Inv.list_inj (I : Inv X pins σ H s) (h : SqL X.K H a xs) (h' : SqL X.K H a ys) : xs = ys := by
 obtain ⟨its, r, ⟨o, n, e, _, _, d⟩, _⟩ := I.list h
 obtain ⟨its', r', ⟨o', n', e', _, _, d'⟩, _⟩ := I.list h'
 rw [e] at e'; cases e'
 rw [d] at d'
 injection d' with d1 _
 have : its = its' := by simpa using congrArg Array.toList d1
 subst this
 exact r.inj r'
theorem Inv.tuple_inj (I : Inv X pins σ H s) (h : SqT X.K H a xs) (h' : SqT X.K H a ys) : xs = ys := by
 obtain ⟨its, r, ⟨o, e, _, n, d⟩, _⟩ := I.tuple h
 obtain ⟨its', r', ⟨o', e', _, n', d'⟩, _⟩ := I.tuple h'
 rw [e] at e'; cases e'
 rw [d] at d'
 injection d' with d1 _
 have : its = its' := by simpa using congrArg Array.toList d1
 subst this
 exact r.inj r'
end
abbrev Cx.wish (X : Cx) (E : Value → Shared → Prop) : Cx := { X with xe := E }
abbrev Cx.nox (X : Cx) : Cx := X.wish fun _ _ => False
theorem Cx.Ok.wish {X : Cx} (ok : X.Ok) (E : Value → Shared → Prop) : (X.wish E).Ok :=
 ⟨ok.mod, ok.kind, ok.glob, ok.blt, ok.above, ok.inj, ok.has, ok.cab, ok.hd, ok.frames, ok.stk, ok.exf, ok.bs, ok.bsz, ok.noex, ok.exfs, ok.funs, ok.frf⟩
theorem Cx.Ok.unwish {X : Cx} {E : Value → Shared → Prop} (ok : (X.wish E).Ok) : X.Ok :=
 ⟨ok.mod, ok.kind, ok.glob, ok.blt, ok.above, ok.inj, ok.has, ok.cab, ok.hd, ok.frames, ok.stk, ok.exf, ok.bs, ok.bsz, ok.noex, ok.exfs, ok.funs, ok.frf⟩
section
variable {X : Cx} {pins : List (Addr × Obj)} {σ : St} {H : Hp} {s : Shared} {E : Value → Shared → Prop}
theorem Inv.wish (I : Inv X pins σ H s) (E : Value → Shared → Prop) : Inv (X.wish E) pins σ H s := ⟨I.ok.wish E, I.os, I.bare, I.base, I.loc, I.cell, I.free, I.freeC, I.pin, I.hok, I.len⟩
theorem Inv.unwish (I : Inv (X.wish E) pins σ H s) : Inv X pins σ H s := ⟨I.ok.unwish, I.os, I.bare, I.base, I.loc, I.cell, I.free, I.freeC, I.pin, I.hok, I.len⟩
theorem SP.unwish {D : Ends} {f : Flow} {s' : Shared} (h : SP (X.wish E) pins D f s') : SP X pins D f s' := by
 cases f with
 | next => obtain ⟨σ', H', I, q⟩ := h; exact ⟨σ', H', I.unwish, q⟩
 | brk => obtain ⟨σ', H', I, q⟩ := h; exact ⟨σ', H', I.unwish, q⟩
 | cont => obtain ⟨σ', H', I, q⟩ := h; exact ⟨σ', H', I.unwish, q⟩
 | ret u => obtain ⟨v, σ', H', I, r, q⟩ := h; exact ⟨v, σ', H', I.unwish, r, q⟩
theorem PSs.nox {st : List Stmt} {t : TS} (h : PSs X.nox st t) : PSs X st t := fun pins s σ H D I hw =>
 wpAny_mono (h pins s σ H D (I.wish _) hw) (fun _ _ q => q.unwish) fun _ _ z => False.elim z
end
section
variable {X : Cx} {st : Stmt} {rest : List Stmt} {t u : TS} {e : Expr} {te : TE} {pos : Pos}
def tNext : TS := fun D σ H => D.nx σ H
def tSeq (t u : TS) : TS := fun D σ H => t { D with nx := u D } σ H
theorem zan8 : PSs X [] tNext := fun _ _ σ H _ I h => wpAny_execs_nil ⟨σ, H, I, h⟩
theorem zah0 (h1 : PS X st t) (h2 : PSs X rest u) : PSs X (st :: rest) (tSeq t u) := by
 intro pins s σ H D I h
 refine wpAny_execs_cons (thn (h1 pins s σ H { D with nx := u D } I h) fun f s1 q => ?_)
 cases f with
 | next =>
  obtain ⟨σ', H', I', q⟩ := q
  exact h2 pins s1 σ' H' D I' q
 | ret v => exact q
 | brk => exact q
 | cont => exact q
theorem zan9 (h1 : PS X st t) : PSs X [st] t := by
 intro pins s σ H D I h
 refine wpAny_execs_cons (thn (h1 pins s σ H D I h) fun f s1 q => ?_)
 cases f with
 | next => exact wpAny_execs_nil q
 | ret v => exact q
 | brk => exact q
 | cont => exact q
def tBreak : TS := fun D σ H => D.bk σ H
def tCont : TS := fun D σ H => D.ct σ H
theorem Inv.quiet {pins : List (Addr × Obj)} {σ : St} {H : Hp} {s : Shared} (I : Inv X pins σ H s) : interactive X.env = false := by simp [interactive, I.ok.kind]
def tDrop (te : TE) : TS := fun D σ H => te σ H fun _ H1 => D.nx σ H1
theorem zaoa (he : PE X e te) (hs : swapsWith e none pos.line X.env = pure false := by rfl) : PS X (.Expr e pos) (tDrop te) := by
 intro pins s σ H D I h
 exact wpAny_Expr_any (thn (he pins s σ H _ I h) fun v s1 ⟨x, H1, I1, r1, q1⟩ => ⟨σ, H1, I1, q1⟩) I.quiet hs
def tRet (te : TE) : TS := fun D σ H => te σ H D.rt
theorem zaqh (he : PE X e te) : PS X (.Return (some e) pos) (tRet te) := by
 intro pins s σ H D I h
 exact wpAny_Return_some (thn (he pins s σ H _ I h) fun v s1 ⟨x, H1, I1, r1, q1⟩ => ⟨x, σ, H1, I1, r1, q1⟩)
def tRetN : TS := fun D _ H => D.rt .non H
def tIfS (c : TT) (t u : TS) : TS := fun D σ H => c σ H fun b H1 => if b = true then t D σ H1 else u D σ H1
theorem zark {c : Expr} {a b : List Stmt} {tc : TT} (hc : PT X c tc) (ha : PSs X a t) (hb : PSs X b u) : PS X (.If c a b pos) (tIfS tc t u) := by
 intro pins s σ H D I h
 refine wpAny_If (thn (hc pins s σ H _ I h) fun d s1 ⟨H1, I1, q1⟩ => ?_)
 cases d with
 | true => exact ha pins s1 σ H1 D I1 q1
 | false => exact hb pins s1 σ H1 D I1 q1
def tNever : TS := fun _ _ _ => False
end
abbrev TG := V → St → Hp → (St → Hp → Prop) → Prop
abbrev TGs := List V → St → Hp → (St → Hp → Prop) → Prop
def PG (X : Cx) (target : Expr) (t : TG) : Prop :=
 ∀ (pins : List (Addr × Obj)) (s : Shared) (σ : St) (H : Hp) (v : V) (u : Value) (Q : St → Hp → Prop), Inv X pins σ H s → RelV v u → t v σ H Q →
  wpAny (model X.prog X.w) X.A (assign target X.env u) (fun _ s' => ∃ σ' H', Inv X pins σ' H' s' ∧ Q σ' H') X.xe s
def PGs (X : Cx) (ts : List Expr) (t : TGs) : Prop :=
 ∀ (pins : List (Addr × Obj)) (s : Shared) (σ : St) (H : Hp) (vs : List V) (us : List Value) (Q : St → Hp → Prop), Inv X pins σ H s → Vals vs us → t vs σ H Q →
  wpAny (model X.prog X.w) X.A (assignInOrder ((assignEach ts X.env).map (·.2)) us) (fun _ s' => ∃ σ' H', Inv X pins σ' H' s' ∧ Q σ' H') X.xe s
abbrev TSet := V → V → V → Hp → (Hp → Prop) → Prop
def PSet (X : Cx) (t : TSet) : Prop :=
 ∀ (pins : List (Addr × Obj)) (s : Shared) (σ : St) (H : Hp) (o i v : V) (ov iv u : Value) (Q : Hp → Prop), Inv X pins σ H s → RelV o ov → RelV i iv → RelV v u → t o i v H Q →
  wpAny (model X.prog X.w) X.A (setItem ov iv u) (fun _ s' => ∃ H', Inv X pins σ H' s' ∧ Q H') X.xe s
abbrev TIp := V → V → Hp → VK → Prop
def PIp (X : Cx) (op : Operator) (t : TIp) : Prop :=
 ∀ (pins : List (Addr × Obj)) (s : Shared) (σ : St) (H : Hp) (x y : V) (v u : Value) (Q : VK), Inv X pins σ H s → RelV x v → RelV y u → t x y H Q →
  wpAny (model X.prog X.w) X.A (inplaceOp op v u) (EP X pins σ Q) X.xe s
section
variable {X : Cx} {pos : Pos}
def gName (i : Nat) : TG := fun v σ H Q => Q (σ.set i (some v)) H
theorem zaob {i : Nat} {x : Str} (hN : X.N.Nodup) (hi : X.N[i]? = some x) (hx : Loc X.env.scope x) (hf : X.fn x = true ∨ X.env.scope.names.lookup x = some .local := by first | exact .inl rfl | exact .inr rfl | assumption) : PG X (.Name x pos) (gName i) := by
 intro pins s σ H v u Q I r h
 exact wpAny_assign_Name (zae8 I hN hi hx r (fun s' I' => ⟨_, H, I', h⟩) hf)
def gNil : TGs := fun vs σ H Q => vs = [] ∧ Q σ H
def gCons (t : TG) (u : TGs) : TGs := fun vs σ H Q => ∃ v r, vs = v :: r ∧ t v σ H fun σ' H' => u r σ' H' Q
theorem zaoc : PGs X [] gNil := by
 intro pins s σ H vs us Q I r h
 obtain ⟨e, h⟩ := h
 subst e
 cases r
 exact assignInOrder_nil ⟨σ, H, I, h⟩
theorem zal5 {e : Expr} {es : List Expr} {t : TG} {u : TGs} (h1 : PG X e t) (h2 : PGs X es u)
  (hs : (assignEach (e :: es) X.env).map (·.2) = assign e X.env :: (assignEach es X.env).map (·.2) := by rfl) : PGs X (e :: es) (gCons t u) := by
 intro pins s σ H vs us Q I r h
 obtain ⟨v, vr, e1, h⟩ := h
 subst e1
 cases r with
 | cons r rr =>
  rw [hs]
  refine assignInOrder_cons (thn (h1 pins s σ H _ _ _ I r h) fun _ s1 ⟨σ1, H1, I1, q1⟩ => ?_)
  exact h2 pins s1 σ1 H1 _ _ Q I1 rr q1
def gTup (K : PySem.W.Frag) (n : Nat) (t : TGs) : TG := fun v σ H Q => ∃ a xs, v = .ref a ∧ SqT K H a xs ∧ xs.length = n ∧ t xs σ H Q
theorem zanl {es : List Expr} {k : Nat} {t : TGs} {n : Nat} (hc : X.calm = true) (h : PGs X es t)
  (hn : (assignEach es X.env).length = n := by rfl) (hst : (assignEach es X.env).findIdx? (·.1) = none := by rfl) : PG X (.Tuple es k pos) (gTup X.K n t) := by
 intro pins s σ H v u Q I r hw
 obtain ⟨a, xs, e1, hq, hl, hw⟩ := hw
 subst e1
 cases r
 obtain ⟨its, rv, ht, hz⟩ := I.tuple hq
 refine assign_Tuple_tuple (I.ok.hd hc) ht (by simp [hn, ← hl, rv.length]) hst fun h' hx => ?_
 have I1 : Inv X pins σ H { s with heap := h' } := I.kept (t' := s.toks) fun b o e => hx b o (Nat.ne_of_lt (Heap.lt_size e)) e
 exact h pins _ σ H xs _ Q I1 (by simpa using rv) hw
def gSub (to ti : TE) (t : TSet) : TG := fun v σ H Q => to σ H fun o H1 => ti σ H1 fun i H2 => t o i v H2 fun H3 => Q σ H3
theorem zaqi {o i : Expr} {to ti : TE} {t : TSet} (ho : PE X o to) (hi : PE X i ti) (hs : PSet X t)
  (ha : ∀ v, assign (.Subscript o i pos) X.env v = (do
   let ov ← holding [v] (eval o X.env)
   let iv ← holding [v, ov] (eval i X.env)
   standAt pos
   holding [v, ov, iv] (setItem ov iv v)
   release [v, ov, iv] []) := by intro _; rfl) : PG X (.Subscript o i pos) (gSub to ti t) := by
 intro pins s σ H v u Q I r h
 rw [ha]
 refine wpAny_bind (wpAny_holding (thn (ho pins s σ H _ I h) fun ov s1 ⟨x, H1, I1, r1, q1⟩ => ?_))
 refine wpAny_bind (wpAny_holding (thn (hi pins s1 σ H1 _ I1 q1) fun iv s2 ⟨y, H2, I2, r2, q2⟩ => ?_))
 refine wpAny_bind (wpAny_standAt (wpAny_bind (wpAny_holding (thn (hs pins s2 σ H2 x y v ov iv u _ I2 r1 r2 r q2) fun _ s3 ⟨H3, I3, q3⟩ => ?_))))
 exact wpAny_release ⟨σ, H3, I3, q3⟩
def tAsg (te : TE) (g : TG) : TS := fun D σ H => te σ H fun x H1 => g x σ H1 D.nx
theorem zaqj {tg e : Expr} {te : TE} {g : TG} (he : PE X e te) (hg : PG X tg g) (hs : swapsWithSole [tg] e pos.line X.env = pure false := by rfl) (hw : swappedStores [tg] e X.env = pure none := by rfl)
  (h1 : (assignEach [tg] X.env).map (·.2) = [assign tg X.env] := by rfl) : PS X (.Assign [tg] e pos) (tAsg te g) := by
 intro pins s σ H D I h
 refine wpAny_Assign_stores (thn (he pins s σ H _ I h) fun v s1 ⟨x, H1, I1, r1, q1⟩ => ?_) hs hw
 rw [h1]
 exact thn (hg pins s1 σ H1 x v _ I1 r1 q1) fun _ s2 q => q
theorem zaqk {i : Nat} {x : Str} {e : Expr} {te : TE} {pos' : Pos} (hN : X.N.Nodup) (hi : X.N[i]? = some x) (hx : Loc X.env.scope x) (he : PE X e te) (hs : swapsWith e (some (.Name x pos')) pos.line X.env = pure false := by rfl) (hf : X.fn x = true ∨ X.env.scope.names.lookup x = some .local := by first | exact .inl rfl | exact .inr rfl | assumption) :
  PS X (.Assign [.Name x pos'] e pos) (tAsg te (gName i)) := by
 intro pins s σ H D I h
 refine wpAny_Assign_Name (thn (he pins s σ H _ I h) fun v s1 ⟨y, H1, I1, r1, q1⟩ => ?_) hs
 exact zae8 I1 hN hi hx r1 (fun s2 I2 => ⟨_, H1, I2, q1⟩) hf
def tPar (i j : Nat) (ta : TA) : TS := fun D σ H => ta σ H fun vs H1 => ∃ v w, vs = [v, w] ∧ D.nx ((σ.set i (some v)).set j (some w)) H1
def tAug (i : Nat) (te : TE) (ti : TIp) : TS := fun D σ H => ∃ x, σ[i]? = some (some x) ∧ te σ H fun y H1 => ti x y H1 fun z H2 => D.nx (σ.set i (some z)) H2
def tAugS (to ti te : TE) (tget : V → V → Hp → VK → Prop) (tip : TIp) (tset : TSet) : TS := fun D σ H => to σ H fun o H1 => ti σ H1 fun i H2 => tget o i H2 fun x H3 => te σ H3 fun y H4 => tip x y H4 fun z H5 => tset o i z H5 fun H6 => D.nx σ H6
def PGet (X : Cx) (t : V → V → Hp → VK → Prop) : Prop :=
 ∀ (pins : List (Addr × Obj)) (s : Shared) (σ : St) (H : Hp) (o i : V) (ov iv : Value) (Q : VK), Inv X pins σ H s → RelV o ov → RelV i iv → t o i H Q →
  wpAny (model X.prog X.w) X.A (getItem ov iv) (EP X pins σ Q) X.xe s
def ipI (f : Int → Int → Int) : TIp := fun x y H Q => ∃ i j, x = .int i ∧ y = .int j ∧ Q (.int (f i j)) H
def tWhile (c : TT) (tb : TS) : TS := fun D σ H => ∃ W : Nat → St → Hp → Prop, (∃ m, W m σ H) ∧ ∀ m σ H, W m σ H →
 c σ H fun b H1 => if b = true then ∃ N : St → Hp → Prop, (∀ σ' H', N σ' H' → ∃ m', m' < m ∧ W m' σ' H') ∧ tb { D with nx := N, ct := N, bk := D.nx } σ H1 else D.nx σ H1
end
structure It where
 go : Nat → Hp → Prop
 yld : Nat → Hp → V → Hp → Prop
 stop : Nat → Hp → Prop
def FpOk (X : Cx) (pins : List (Addr × Obj)) (H : Hp) (b : Addr) : Prop :=
 H b = none ∧ b ≠ X.env.locals ∧ b ∉ X.fs ∧ (b ∈ X.ex ∨ X.s₀.heap.objs.size ≤ b) ∧ (∀ x c, X.env.cells.lookup x = some c → c ≠ b) ∧ ∀ p ∈ X.pn ++ pins, p.1 ≠ b
theorem Inv.fpOk {X : Cx} {pins : List (Addr × Obj)} {σ : St} {H H' : Hp} {s : Shared} {b : Addr} (I : Inv X pins σ H s) (hb : s.heap.objs.size ≤ b) (hn : H' b = none) : FpOk X pins H' b := by
 refine ⟨hn, Nat.ne_of_gt (Nat.lt_of_lt_of_le I.lt hb), I.nofs hb, .inr (Nat.le_trans I.sz hb), fun x c e z => ?_, fun p hp z => ?_⟩
 ·obtain ⟨v, q⟩ := I.cell x c e
  exact absurd (Nat.lt_of_lt_of_le q.lt (by rw [z]; exact hb)) (Nat.lt_irrefl _)
 ·exact absurd (Nat.lt_of_lt_of_le (Heap.lt_size (I.pin p hp).1) (by rw [z]; exact hb)) (Nat.lt_irrefl _)
structure Turn (P : Program) (w : World) (K : PySem.W.Frag) (tg : Expr) (J : It) (fp : List Addr) (it : Addr) (tn : Nat → Heap → Prop) : Prop where
 mem : it ∈ fp
 obj : ∀ i h, tn i h → ∀ b ∈ fp, ∃ o, h.get? b = some o ∧ ∀ v, o.data ≠ .cell v
 keep : ∀ i h h', tn i h → (∀ b ∈ fp, ∀ o, h.get? b = some o → h'.get? b = some o) → tn i h'
 item : ∀ (X : Cx), X.prog = P → X.w = w → X.K = K → X.calm = true → ∀ (i : Nat) (pins : List (Addr × Obj)) (s : Shared) (σ : St) (H : Hp) (E : Value → Shared → Prop), Inv X pins σ H s → (∀ b ∈ fp, FpOk X pins H b) → tn i s.heap → J.go i H →
  wpAny (model P w) X.A (pyNext (.ref it)) (fun r s1 => ∃ u, r = some u ∧
   wpAny (model P w) X.A (letOwnedTupleGo tg (.ref it) u) (fun _ s2 => ∃ x H', Inv X pins σ H' s2 ∧ RelV x u ∧ J.yld i H x H' ∧ tn (i + 1) s2.heap ∧ ∀ b ∈ fp, H' b = none) E s1) E s
 done : ∀ (X : Cx), X.prog = P → X.w = w → X.K = K → X.calm = true → ∀ (i : Nat) (pins : List (Addr × Obj)) (s : Shared) (σ : St) (H : Hp) (E : Value → Shared → Prop), Inv X pins σ H s → (∀ b ∈ fp, FpOk X pins H b) → tn i s.heap → J.stop i H →
  wpAny (model P w) X.A (pyNext (.ref it)) (fun r s1 => r = none ∧ Inv X pins σ H s1) E s
 self : ∀ (A : Around) (i : Nat) (s : Shared) (Q : Value → Shared → Prop) (E : Value → Shared → Prop), tn i s.heap → Q (.ref it) s → wpAny (model P w) A (pyIter (.ref it)) Q E s
abbrev TI := St → Hp → (It → Hp → Prop) → Prop
def PIE (X : Cx) (pins : List (Addr × Obj)) (σ : St) (tg : Expr) (R : It → Hp → Prop) (itv : Value) (s2 : Shared) : Prop :=
 ∃ (it : Addr) (fp : List Addr) (tn : Nat → Heap → Prop) (J : It) (H' : Hp), itv = .ref it ∧ Inv X pins σ H' s2 ∧ Turn X.prog X.w X.K tg J fp it tn ∧ tn 0 s2.heap ∧ (∀ b ∈ fp, FpOk X pins H' b) ∧ R J H'
def PI (X : Cx) (tg iter : Expr) (wi : TI) : Prop :=
 ∀ (pins : List (Addr × Obj)) (s : Shared) (σ : St) (H : Hp) (R : It → Hp → Prop), Inv X pins σ H s → wi σ H R →
  wpAny (model X.prog X.w) X.A (eval iter X.env) (fun v s1 => wpAny (model X.prog X.w) X.A (pyIter v) (PIE X pins σ tg R) X.xe s1) X.xe s
theorem zaod {M : Model} {A : Around} {E : Value → Shared → Prop} {s : Shared} {tg : Expr} {it : Addr} {u : Value} {o : Obj} {n : String} {vs : Array Value} {Q : Unit → Shared → Prop} (ho : s.heap.get? it = some o) (hc : o.cls = .type n) (hd : o.data = .fields vs)
  (hn : ["enumerate", "zip", "dict_itemiterator", "dict_reverseitemiterator", "odict_iterator", "itertools.zip_longest", "itertools.pairwise"].contains n = false) (hQ : Q () s) : wpAny M A (letOwnedTupleGo tg (.ref it) u) Q E s := by
 unfold letOwnedTupleGo
 cases tg <;> first
  | exact wpAny_pure hQ
  | (cases u <;> first
    | exact wpAny_pure hQ
    | (refine wpAny_bind (wpAny_load ho ?_)
       rw [hc, hd]
       show wpAny M A (if (["enumerate", "zip", "dict_itemiterator", "dict_reverseitemiterator", "odict_iterator", "itertools.zip_longest", "itertools.pairwise"].contains n && vs[0]? == some (rawInt _)) = true then _ else _) Q E s
       rw [if_neg (by intro h; rw [hn, Bool.false_and] at h; cases h)]
       exact wpAny_pure hQ))
def Itl (K : PySem.W.Frag) (a : Addr) : It :=
 ⟨fun i H => ∃ xs x, SqL K H a xs ∧ xs[i]? = some x, fun i H x H' => H' = H ∧ ∀ xs, SqL K H a xs → xs[i]? = some x, fun i H => ∃ xs, SqL K H a xs ∧ xs.length ≤ i⟩
def Itt (K : PySem.W.Frag) (a : Addr) : It :=
 ⟨fun i H => ∃ xs x, SqT K H a xs ∧ xs[i]? = some x, fun i H x H' => H' = H ∧ ∀ xs, SqT K H a xs → xs[i]? = some x, fun i H => ∃ xs, SqT K H a xs ∧ xs.length ≤ i⟩
def Itr (lo : Int) (n : Nat) : It := ⟨fun i _ => i < n, fun i H x H' => H' = H ∧ x = .int (lo + i), fun i _ => n ≤ i⟩
theorem zai8 {P : Program} {w : World} {K : PySem.W.Frag} {tg : Expr} (a it : Addr) : Turn P w K tg (Itl K a) [it] it (fun i h => h.IsListIter it a i) where
 mem := by simp
 obj := fun i h st b hb => by
  have e : b = it := by simpa using hb
  subst e
  obtain ⟨o, e, c, d⟩ := st
  exact ⟨o, e, fun v z => by rw [d] at z; cases z⟩
 keep := fun i h h' st k => st.at fun o e => k it (by simp) o e
 item := by
  intro X hP hw hK hc i pins s σ H E I hf st hg
  subst hP hw hK
  obtain ⟨xs, x, hq, hx⟩ := hg
  obtain ⟨its, rv, p, hz⟩ := I.list hq
  obtain ⟨u, hu, ru⟩ := rv.get hx
  obtain ⟨f0, f1, f2, f3, f4, f5⟩ := hf it (by simp)
  refine wpAny_pyNext_list_item st p.isList (x := u) (by simpa using hu) fun h' st' sb => ?_
  have I1 : Inv X pins σ H { s with heap := h' } := I.turned (t' := s.toks) (fun b o hb e => (sb.2 b hb).trans e) f0 f1 f3 f4 f5
  obtain ⟨o, e, c, d⟩ := id st'
  exact ⟨u, rfl, zaod (s := { s with heap := h' }) e c d (by decide) ⟨x, H, I1, ru, ⟨rfl, fun ys hy => by rw [I.list_inj hy hq]; exact hx⟩, st', fun b hb => (hf b hb).1⟩⟩
 done := by
  intro X hP hw hK hc i pins s σ H E I hf st hg
  subst hP hw hK
  obtain ⟨xs, hq, hx⟩ := hg
  obtain ⟨its, rv, p, hz⟩ := I.list hq
  obtain ⟨f0, f1, f2, f3, f4, f5⟩ := hf it (by simp)
  have hl := rv.length
  exact wpAny_pyNext_list_end (I.ok.hd hc) st p.isList (by simp; omega) fun h' eb => ⟨rfl, I.turned (t' := s.toks) (fun b o hb e => eb b o hb e) f0 f1 f3 f4 f5⟩
 self := fun _ _ _ _ _ st h => wpAny_pyIter_listiter st h
theorem zaim {P : Program} {w : World} {K : PySem.W.Frag} {tg : Expr} (a it : Addr) : Turn P w K tg (Itt K a) [it] it (fun i h => h.IsTupleIter it a i) where
 mem := by simp
 obj := fun i h st b hb => by
  have e : b = it := by simpa using hb
  subst e
  obtain ⟨o, e, c, d⟩ := st
  exact ⟨o, e, fun v z => by rw [d] at z; cases z⟩
 keep := fun i h h' st k => st.at fun o e => k it (by simp) o e
 item := by
  intro X hP hw hK hc i pins s σ H E I hf st hg
  subst hP hw hK
  obtain ⟨xs, x, hq, hx⟩ := hg
  obtain ⟨its, rv, p, hz⟩ := I.tuple hq
  obtain ⟨u, hu, ru⟩ := rv.get hx
  obtain ⟨f0, f1, f2, f3, f4, f5⟩ := hf it (by simp)
  refine wpAny_pyNext_tuple_item st (show s.heap.IsTuple a its.toArray from p) (x := u) (by simpa using hu) fun h' st' sb => ?_
  have I1 : Inv X pins σ H { s with heap := h' } := I.turned (t' := s.toks) (fun b o hb e => (sb.2 b hb).trans e) f0 f1 f3 f4 f5
  obtain ⟨o, e, c, d⟩ := id st'
  exact ⟨u, rfl, zaod (s := { s with heap := h' }) e c d (by decide) ⟨x, H, I1, ru, ⟨rfl, fun ys hy => by rw [I.tuple_inj hy hq]; exact hx⟩, st', fun b hb => (hf b hb).1⟩⟩
 done := by
  intro X hP hw hK hc i pins s σ H E I hf st hg
  subst hP hw hK
  obtain ⟨xs, hq, hx⟩ := hg
  obtain ⟨its, rv, p, hz⟩ := I.tuple hq
  obtain ⟨f0, f1, f2, f3, f4, f5⟩ := hf it (by simp)
  have hl := rv.length
  exact wpAny_pyNext_tuple_end (I.ok.hd hc) st (show s.heap.IsTuple a its.toArray from p) (by simp; omega) fun h' eb => ⟨rfl, I.turned (t' := s.toks) (fun b o hb e => eb b o hb e) f0 f1 f3 f4 f5⟩
 self := fun _ _ _ _ _ st h => wpAny_pyIter_tupleiter st h
theorem zain {P : Program} {w : World} {K : PySem.W.Frag} {tg : Expr} (it : Addr) (lo : Int) (n : Nat) : Turn P w K tg (Itr lo n) [it] it (fun i h => IsRangeIter h it (lo + (i : Nat) * 1) ((n : Int) - (i : Nat)) 1) where
 mem := by simp
 obj := fun i h st b hb => by
  have e : b = it := by simpa using hb
  subst e
  exact ⟨_, st, fun v z => by
   have z' : Data.fields _ = Data.cell v := z
   cases z'⟩
 keep := fun i h h' st k => k it (by simp) _ st
 item := by
  intro X hP hw hK hc i pins s σ H E I hf st hg
  subst hP hw hK
  obtain ⟨f0, f1, f2, f3, f4, f5⟩ := hf it (by simp)
  have W := Walks.range (prog := X.prog) (w := X.w) (I.ok.hd hc) it lo 1 n
  refine W.item i s _ _ hg st fun v h' tk hv st' kk => ?_
  obtain ⟨t, rfl⟩ := hv
  have I1 : Inv X pins σ H { s with heap := h', toks := tk } := I.turned (fun b o hb e => kk b o (by simpa using hb) e) f0 f1 f3 f4 f5
  refine ⟨_, rfl, zaod (s := { s with heap := h', toks := tk }) (n := "range_iterator") st' rfl rfl (by decide) ⟨.int (lo + i), H, I1, ⟨t, ?_⟩, ⟨rfl, rfl⟩, st', fun b hb => (hf b hb).1⟩⟩
  rw [Int.mul_one]
 done := by
  intro X hP hw hK hc i pins s σ H E I hf st hg
  subst hP hw hK
  obtain ⟨f0, f1, f2, f3, f4, f5⟩ := hf it (by simp)
  exact wpAny_pyNext_range_end (I.ok.hd hc) st (by have : n ≤ i := hg; omega) fun h' eb => ⟨rfl, I.turned (t' := s.toks) (fun b o hb e => eb b o hb e) f0 f1 f3 f4 f5⟩
 self := fun _ _ _ _ _ st h => wpAny_pyIter_rangeiter st h
section
variable {X : Cx} {tg : Expr}
def iList (K : PySem.W.Frag) (tl : TE) : TI := fun σ H R => tl σ H fun x H1 => ∃ a, x = .ref a ∧ (∃ xs, SqL K H1 a xs) ∧ R (Itl K a) H1
def iTup (K : PySem.W.Frag) (tl : TE) : TI := fun σ H R => tl σ H fun x H1 => ∃ a, x = .ref a ∧ (∃ xs, SqT K H1 a xs) ∧ R (Itt K a) H1
theorem zaoe {l : Expr} {tl : TE} (hl : PE X l tl) : PI X tg l (iList X.K tl) := by
 intro pins s σ H R I h
 refine thn (hl pins s σ H _ I h) fun v s1 ⟨x, H1, I1, r1, q1⟩ => ?_
 obtain ⟨a, e, ⟨xs, hq⟩, q⟩ := q1
 subst e
 cases r1
 obtain ⟨its, rv, p, hz⟩ := I1.list hq
 refine wpAny_pyIter_list p.isList ?_
 refine ⟨s1.heap.objs.size, [s1.heap.objs.size], _, _, H1, rfl, I1.kept (t' := s1.toks) fun b o e => Heap.get?_push_of_some _ e, zai8 a _, ⟨_, Heap.get?_push_size _ rfl, rfl, rfl⟩, fun b hb => ?_, q⟩
 have e : b = s1.heap.objs.size := by simpa using hb
 subst e
 exact I1.fpOk (Nat.le_refl _) (I1.hok.fresh (Nat.le_refl _))
theorem zaql {l : Expr} {tl : TE} (hl : PE X l tl) : PI X tg l (iTup X.K tl) := by
 intro pins s σ H R I h
 refine thn (hl pins s σ H _ I h) fun v s1 ⟨x, H1, I1, r1, q1⟩ => ?_
 obtain ⟨a, e, ⟨xs, hq⟩, q⟩ := q1
 subst e
 cases r1
 obtain ⟨its, rv, p, hz⟩ := I1.tuple hq
 refine wpAny_pyIter_tuple (show s1.heap.IsTuple a its.toArray from p) ?_
 refine ⟨s1.heap.objs.size, [s1.heap.objs.size], _, _, H1, rfl, I1.kept (t' := s1.toks) fun b o e => Heap.get?_push_of_some _ e, zaim a _, ⟨_, Heap.get?_push_size _ rfl, rfl, rfl⟩, fun b hb => ?_, q⟩
 have e : b = s1.heap.objs.size := by simpa using hb
 subst e
 exact I1.fpOk (Nat.le_refl _) (I1.hok.fresh (Nat.le_refl _))
theorem zah1 {pins : List (Addr × Obj)} {σ : St} {H : Hp} {s : Shared} {R : It → Hp → Prop} {E : Value → Shared → Prop} {lo hi : Int} {t u v : Tok} {tk : Nat} (I : Inv X pins σ H s) (h1 : -(2 ^ 62) ≤ lo) (h2 : lo < 2 ^ 62) (h3 : -(2 ^ 62) ≤ hi) (h4 : hi < 2 ^ 62)
  (q : R (Itr lo (hi - lo).toNat) H) : wpAny (model X.prog X.w) X.A (pyIter (.ref s.heap.objs.size)) (PIE X pins σ tg R) E { s with heap := s.heap.push { cls := .type "range", data := .fields #[.int lo t, .int hi u, .int 1 v] }, toks := tk } := by
 refine wpAny_pyIter_range (IsRange.new ..) (small_one h1 h2 h3 h4) ?_
 have I1 : Inv X pins σ H { s with heap := s.heap.push { cls := .type "range", data := .fields #[.int lo t, .int hi u, .int 1 v] }, toks := tk } := I.kept fun b o e => Heap.get?_push_of_some _ e
 refine ⟨(s.heap.push { cls := .type "range", data := .fields #[.int lo t, .int hi u, .int 1 v] }).objs.size, [(s.heap.push { cls := .type "range", data := .fields #[.int lo t, .int hi u, .int 1 v] }).objs.size], _, _, H, rfl,
  I1.kept (t' := tk) fun b o e => Heap.get?_push_of_some _ e, zain _ lo (hi - lo).toNat, ?_, fun b hb => ?_, q⟩
 ·have e1 : lo + ((0 : Nat) : Int) * 1 = lo := by simp
  have e2 : (((hi - lo).toNat : Nat) : Int) - ((0 : Nat) : Int) = Builtin.Range.rangeSize lo hi 1 := by rw [rangeSize_one]; split <;> omega
  show IsRangeIter _ _ (lo + ((0 : Nat) : Int) * 1) ((((hi - lo).toNat : Nat) : Int) - ((0 : Nat) : Int)) 1
  rw [e1, e2]
  exact Heap.get?_push_size _ rfl
 ·have e : b = (s.heap.push { cls := .type "range", data := .fields #[.int lo t, .int hi u, .int 1 v] }).objs.size := by simpa using hb
  subst e
  exact I1.fpOk (Nat.le_refl _) (I1.hok.fresh (Nat.le_refl _))
def iRng1 (ta : TA) : TI := fun σ H R => ta σ H fun vs H1 => ∃ j : Int, vs = [.int j] ∧ -(2 ^ 62) ≤ j ∧ j < 2 ^ 62 ∧ R (Itr 0 j.toNat) H1
def iRng2 (ta : TA) : TI := fun σ H R => ta σ H fun vs H1 => ∃ i j : Int, vs = [.int i, .int j] ∧ (-(2 ^ 62) ≤ i ∧ i < 2 ^ 62 ∧ -(2 ^ 62) ≤ j ∧ j < 2 ^ 62) ∧ R (Itr i (j - i).toNat) H1
theorem zai9 {a : Expr} {ta : TA} {p pos : Pos} (hg : Gl X "range") (hm : X.mg "range" = none) (ha : PA X [a] ta) (hs : starEach [a] X.env = [(false, eval a X.env)] := by rfl) : PI X tg (.Call (.Name "range" p) [a] [] pos) (iRng1 ta) := by
 intro pins s σ H R I h
 refine Call_ (zaet I hg hm boot_range (PyProof.Rows.callWith_type1 (thn (ha pos pins s σ H _ I h) fun us s1 ⟨vs, H1, I1, r1, q1⟩ => ?_) hs rfl))
 obtain ⟨j, e, q1, q2, q⟩ := q1
 subst e
 cases r1 with
 | cons r rr =>
  cases rr
  obtain ⟨t, rfl⟩ := r
  exact call_range_1 (zah1 I1 (by omega) (by omega) q1 q2 (by simpa using q))
theorem zaja {a b : Expr} {ta : TA} {p pos : Pos} (hg : Gl X "range") (hm : X.mg "range" = none) (ha : PA X [a, b] ta) (hs : starEach [a, b] X.env = [(false, eval a X.env), (false, eval b X.env)] := by rfl) (hs2 : starEach [b] X.env = [(false, eval b X.env)] := by rfl) :
  PI X tg (.Call (.Name "range" p) [a, b] [] pos) (iRng2 ta) := by
 intro pins s σ H R I h
 refine Call_ (zaet I hg hm boot_range (PyProof.Rows.callWith_type1 (thn (ha pos pins s σ H _ I h) fun us s1 ⟨vs, H1, I1, r1, q1⟩ => ?_) (by rw [hs, hs2]) (by rw [hs2]; rfl)))
 obtain ⟨i, j, e, ⟨q1, q2, q3, q4⟩, q⟩ := q1
 subst e
 cases r1 with
 | cons r rr =>
  cases rr with
  | cons r' rr =>
   cases rr
   obtain ⟨t, rfl⟩ := r
   obtain ⟨t', rfl⟩ := r'
   exact call_range_2 (zah1 I1 q1 q2 q3 q4 q)
def tFor (wi : TI) (g : TG) (tb : TS) : TS := fun D σ H => wi σ H fun J H1 => ∃ W : Nat → Nat → St → Hp → Prop, (∃ m, W 0 m σ H1) ∧ ∀ i m σ H, W i m σ H →
 (J.stop i H ∧ D.nx σ H) ∨ (J.go i H ∧ ∃ N : St → Hp → Prop, (∀ σ' H', N σ' H' → ∃ m', m' < m ∧ W (i + 1) m' σ' H') ∧ ∀ x H', J.yld i H x H' → g x σ H' fun σ2 H2 => tb { D with nx := N, ct := N, bk := D.nx } σ2 H2)
def pinsAt (fp : List Addr) (h : Heap) : List (Addr × Obj) := fp.filterMap fun b => (h.get? b).map fun o => (b, o)
theorem zac6 {fp : List Addr} {h : Heap} {b : Addr} {o : Obj} (hb : b ∈ fp) (e : h.get? b = some o) : (b, o) ∈ pinsAt fp h := List.mem_filterMap.mpr ⟨b, hb, by rw [e]; rfl⟩
theorem zagd {fp : List Addr} {h : Heap} {p : Addr × Obj} (hp : p ∈ pinsAt fp h) : p.1 ∈ fp ∧ h.get? p.1 = some p.2 := by
 obtain ⟨b, hb, e⟩ := List.mem_filterMap.mp hp
 cases q : h.get? b with
 | none => rw [q] at e; cases e
 | some o =>
  rw [q] at e
  have e' : (b, o) = p := Option.some.inj e
  subst e'
  exact ⟨hb, q⟩
theorem Inv.pinned {pins : List (Addr × Obj)} {σ : St} {H : Hp} {s : Shared} {fp : List Addr} (I : Inv X pins σ H s) (hf : ∀ b ∈ fp, FpOk X pins H b) (ho : ∀ b ∈ fp, ∃ o, s.heap.get? b = some o ∧ ∀ v, o.data ≠ .cell v) : Inv X (pins ++ pinsAt fp s.heap) σ H s :=
 I.pins_of fun p hp => (List.mem_append.mp hp).elim (fun z => I.pin p (List.mem_append_right _ z)) fun z => by
  obtain ⟨hb, e⟩ := zagd z
  obtain ⟨f0, f1, f2, _⟩ := hf p.1 hb
  obtain ⟨o, e', d⟩ := ho p.1 hb
  rw [e] at e'; cases e'
  exact ⟨e, f0, f1, f2, d⟩
theorem Inv.unpinned {pins pl : List (Addr × Obj)} {σ : St} {H : Hp} {s : Shared} (I : Inv X (pins ++ pl) σ H s) : Inv X pins σ H s := I.pins_of fun p hp => I.pin p (List.mem_append_right _ (List.mem_append_left _ hp))
theorem zaqm {iter : Expr} {body : List Stmt} {wi : TI} {g : TG} {tb : TS} {pos : Pos} (hp : PassesOwn (model X.prog X.w) X.A X.env X.xe) (hc : X.calm = true) (hi : PI X tg iter wi) (hg : PG X tg g) (hb : PSs X body tb)
  (hs : ∀ x, foldedSetIterable iter X.env x = pure x := by intro _; rfl) : PS X (.For tg iter body [] pos) (tFor wi g tb) := by
 intro pins s σ H D I h
 refine wpAny_For (thn (hi pins s σ H _ I h) fun v s1 h1 => thn h1 fun itv s2 h2 => ?_) hs
 obtain ⟨it, fp, tn, J, H2, e, I2, T, st2, f2, W, ⟨m0, w0⟩, turn⟩ := h2
 subst e
 have stat : ∀ {H' : Hp}, (∀ b ∈ fp, H' b = none) → ∀ b ∈ fp, FpOk X pins H' b := fun hn b hb => ⟨hn b hb, (f2 b hb).2⟩
 refine codeAny_forLoop_any (fun n s' => ∃ i σ' H', Inv X pins σ' H' s' ∧ tn i s'.heap ∧ (∀ b ∈ fp, H' b = none) ∧ W i n σ' H') ?_ m0 ⟨0, σ, H2, I2, st2, fun b hb => (f2 b hb).1, w0⟩
 rintro n s3 ⟨i, σ3, H3, I3, st3, fr3, w3⟩
 rcases turn i n σ3 H3 w3 with ⟨stop, qn⟩ | ⟨go, N, hN, step⟩
 ·refine wpAny_passesOwn hp (thn (T.done X rfl rfl rfl hc i pins s3 σ3 H3 X.xe I3 (stat fr3) st3 stop) fun r s4 ⟨hr, I4⟩ => ?_)
  subst hr
  exact wpAny_execs_nil ⟨σ3, H3, I4, qn⟩
 ·refine wpAny_passesOwn hp (thn (T.item X rfl rfl rfl hc i pins s3 σ3 H3 X.xe I3 (stat fr3) st3 go) fun r s4 ⟨u, hr, h4⟩ => ?_)
  subst hr
  refine wpAny_passesOwn hp (thn h4 fun _ s5 ⟨x, H5, I5, r5, y5, st5, fr5⟩ => ?_)
  have I5' := I5.pinned (stat fr5) (T.obj _ _ st5)
  refine wpAny_passesOwn hp (thn (hg _ s5 σ3 H5 x u _ I5' r5 (step x H5 y5)) fun _ s6 ⟨σ6, H6, I6, q6⟩ => ?_)
  refine wpAny_passesOwn hp (thn (hb _ s6 σ6 H6 _ I6 q6) fun f s7 q7 => ?_)
  have again : ∀ {σ7 : St} {H7 : Hp}, Inv X (pins ++ pinsAt fp s5.heap) σ7 H7 s7 → N σ7 H7 → ∃ m, m < n ∧ ∃ i σ' H', Inv X pins σ' H' s7 ∧ tn i s7.heap ∧ (∀ b ∈ fp, H' b = none) ∧ W i m σ' H' := fun {σ7 H7} I7 n7 => by
   obtain ⟨m', hm, w7⟩ := hN σ7 H7 n7
   refine ⟨m', hm, i + 1, σ7, H7, I7.unpinned, T.keep _ _ _ st5 fun b hb o e => (I7.pin (b, o) (List.mem_append_right _ (List.mem_append_right _ (zac6 hb e)))).1, fun b hb => ?_, w7⟩
   obtain ⟨o, e, d⟩ := T.obj _ _ st5 b hb
   exact (I7.pin (b, o) (List.mem_append_right _ (List.mem_append_right _ (zac6 hb e)))).2.1
  cases f with
  | next => obtain ⟨σ7, H7, I7, n7⟩ := q7; exact again I7 n7
  | cont => obtain ⟨σ7, H7, I7, n7⟩ := q7; exact again I7 n7
  | brk => obtain ⟨σ7, H7, I7, q7⟩ := q7; exact ⟨σ7, H7, I7.unpinned, q7⟩
  | ret v => obtain ⟨x7, σ7, H7, I7, r7, q7⟩ := q7; exact ⟨x7, σ7, H7, I7.unpinned, r7, q7⟩
end
theorem zal6 {K : PySem.W.Frag} {a : Addr} {xs : List V} {g : TG} {tb : TS} {D : Ends} {σ : St} {H : Hp} (Pv : Nat → St → Hp → Prop) (h0 : Pv 0 σ H) (hl : ∀ i σ H, i ≤ xs.length → Pv i σ H → SqL K H a xs)
  (hs : ∀ i x σ H, xs[i]? = some x → Pv i σ H → g x σ H fun σ2 H2 => tb { D with nx := Pv (i + 1), ct := Pv (i + 1), bk := D.nx } σ2 H2) (hd : ∀ σ H, Pv xs.length σ H → D.nx σ H) :
  ∃ W : Nat → Nat → St → Hp → Prop, (∃ m, W 0 m σ H) ∧ ∀ i m σ H, W i m σ H →
   ((Itl K a).stop i H ∧ D.nx σ H) ∨ ((Itl K a).go i H ∧ ∃ N : St → Hp → Prop, (∀ σ' H', N σ' H' → ∃ m', m' < m ∧ W (i + 1) m' σ' H') ∧ ∀ x H', (Itl K a).yld i H x H' → g x σ H' fun σ2 H2 => tb { D with nx := N, ct := N, bk := D.nx } σ2 H2) := by
 refine ⟨fun i m σ H => m = xs.length - i ∧ i ≤ xs.length ∧ Pv i σ H, ⟨xs.length, by simp, Nat.zero_le _, h0⟩, ?_⟩
 rintro i m σ H ⟨rfl, hi, p⟩
 have q := hl i σ H hi p
 by_cases hlt : i < xs.length
 ·refine .inr ⟨⟨xs, xs[i], q, by simp [hlt]⟩, Pv (i + 1), fun σ' H' p' => ⟨xs.length - (i + 1), by omega, rfl, hlt, p'⟩, fun x H' y => ?_⟩
  obtain ⟨e, y⟩ := y
  subst e
  exact hs i x σ _ (y xs q) p
 ·have e : i = xs.length := by omega
  subst e
  exact .inl ⟨⟨xs, q, Nat.le_refl _⟩, hd σ H p⟩
theorem zaof {K : PySem.W.Frag} {a : Addr} {xs : List V} {g : TG} {tb : TS} {D : Ends} {σ : St} {H : Hp} (Pv : Nat → St → Hp → Prop) (h0 : Pv 0 σ H) (hl : ∀ i σ H, i ≤ xs.length → Pv i σ H → SqT K H a xs)
  (hs : ∀ i x σ H, xs[i]? = some x → Pv i σ H → g x σ H fun σ2 H2 => tb { D with nx := Pv (i + 1), ct := Pv (i + 1), bk := D.nx } σ2 H2) (hd : ∀ σ H, Pv xs.length σ H → D.nx σ H) :
  ∃ W : Nat → Nat → St → Hp → Prop, (∃ m, W 0 m σ H) ∧ ∀ i m σ H, W i m σ H →
   ((Itt K a).stop i H ∧ D.nx σ H) ∨ ((Itt K a).go i H ∧ ∃ N : St → Hp → Prop, (∀ σ' H', N σ' H' → ∃ m', m' < m ∧ W (i + 1) m' σ' H') ∧ ∀ x H', (Itt K a).yld i H x H' → g x σ H' fun σ2 H2 => tb { D with nx := N, ct := N, bk := D.nx } σ2 H2) := by
 refine ⟨fun i m σ H => m = xs.length - i ∧ i ≤ xs.length ∧ Pv i σ H, ⟨xs.length, by simp, Nat.zero_le _, h0⟩, ?_⟩
 rintro i m σ H ⟨rfl, hi, p⟩
 have q := hl i σ H hi p
 by_cases hlt : i < xs.length
 ·refine .inr ⟨⟨xs, xs[i], q, by simp [hlt]⟩, Pv (i + 1), fun σ' H' p' => ⟨xs.length - (i + 1), by omega, rfl, hlt, p'⟩, fun x H' y => ?_⟩
  obtain ⟨e, y⟩ := y
  subst e
  exact hs i x σ _ (y xs q) p
 ·have e : i = xs.length := by omega
  subst e
  exact .inl ⟨⟨xs, q, Nat.le_refl _⟩, hd σ H p⟩
theorem zajb {lo : Int} {n : Nat} {g : TG} {tb : TS} {D : Ends} {σ : St} {H : Hp} (Pv : Nat → St → Hp → Prop) (h0 : Pv 0 σ H)
  (hs : ∀ i σ H, i < n → Pv i σ H → g (.int (lo + i)) σ H fun σ2 H2 => tb { D with nx := Pv (i + 1), ct := Pv (i + 1), bk := D.nx } σ2 H2) (hd : ∀ σ H, Pv n σ H → D.nx σ H) :
  ∃ W : Nat → Nat → St → Hp → Prop, (∃ m, W 0 m σ H) ∧ ∀ i m σ H, W i m σ H →
   ((Itr lo n).stop i H ∧ D.nx σ H) ∨ ((Itr lo n).go i H ∧ ∃ N : St → Hp → Prop, (∀ σ' H', N σ' H' → ∃ m', m' < m ∧ W (i + 1) m' σ' H') ∧ ∀ x H', (Itr lo n).yld i H x H' → g x σ H' fun σ2 H2 => tb { D with nx := N, ct := N, bk := D.nx } σ2 H2) := by
 refine ⟨fun i m σ H => m = n - i ∧ i ≤ n ∧ Pv i σ H, ⟨n, by simp, Nat.zero_le _, h0⟩, ?_⟩
 rintro i m σ H ⟨rfl, hi, p⟩
 by_cases hlt : i < n
 ·refine .inr ⟨hlt, Pv (i + 1), fun σ' H' p' => ⟨n - (i + 1), by omega, rfl, hlt, p'⟩, fun x H' y => ?_⟩
  obtain ⟨e, y⟩ := y
  subst e y
  exact hs i σ _ hlt p
 ·have e : i = n := by omega
  subst e
  exact .inl ⟨Nat.le_refl _, hd σ H p⟩
abbrev R2 := V → V → Hp → VK → Prop
def OpR (X : Cx) (f : Value → Value → Sem Value) (r : R2) : Prop :=
 ∀ (pins : List (Addr × Obj)) (s : Shared) (σ : St) (H : Hp) (x y : V) (v u : Value) (Q : VK), Inv X pins σ H s → RelV x v → RelV y u → r x y H Q →
  wpAny (model X.prog X.w) X.A (f v u) (EP X pins σ Q) X.xe s
def UnR (X : Cx) (f : Value → Sem Value) (r : V → Hp → VK → Prop) : Prop :=
 ∀ (pins : List (Addr × Obj)) (s : Shared) (σ : St) (H : Hp) (x : V) (v : Value) (Q : VK), Inv X pins σ H s → RelV x v → r x H Q →
  wpAny (model X.prog X.w) X.A (f v) (EP X pins σ Q) X.xe s
def CallR (X : Cx) (f : Value) (r : List V → Hp → VK → Prop) : Prop :=
 ∀ (pins : List (Addr × Obj)) (s : Shared) (σ : St) (H : Hp) (xs : List V) (us : List Value) (Q : VK), Inv X pins σ H s → Vals xs us → r xs H Q →
  wpAny (model X.prog X.w) X.A (call f us) (EP X pins σ Q) X.xe s
def TruR (X : Cx) (r : V → Hp → (Bool → Hp → Prop) → Prop) : Prop :=
 ∀ (pins : List (Addr × Obj)) (s : Shared) (σ : St) (H : Hp) (x : V) (v : Value) (Q : Bool → Hp → Prop), Inv X pins σ H s → RelV x v → r x H Q →
  wpAny (model X.prog X.w) X.A (truthy v) (TP X pins σ Q) X.xe s
def tOp (r : R2) (ta tb : TE) : TE := fun σ H Q => ta σ H fun x H1 => tb σ H1 fun y H2 => r x y H2 Q
def tUn (r : V → Hp → VK → Prop) (ta : TE) : TE := fun σ H Q => ta σ H fun x H1 => r x H1 Q
def rI (C : Int → Int → Prop) (g : Int → Int → V) : R2 := fun x y H Q => ∃ i j, x = .int i ∧ y = .int j ∧ C i j ∧ Q (g i j) H
def rI0 (g : Int → Int → V) : R2 := fun x y H Q => ∃ i j, x = .int i ∧ y = .int j ∧ Q (g i j) H
def rU (g : Int → V) : V → Hp → VK → Prop := fun x H Q => ∃ i, x = .int i ∧ Q (g i) H
section
variable {X : Cx} {a b c : Expr} {ta tb tc : TE} {pos : Pos}
theorem binT (ha : PE X a ta) (hb : PE X b tb) {pins : List (Addr × Obj)} {s : Shared} {σ : St} {H : Hp} {R : V → V → Hp → Prop} (I : Inv X pins σ H s)
  (h : ta σ H fun x H1 => tb σ H1 fun y H2 => R x y H2) {Q : Value → Shared → Prop} {f : Value → Value → Sem Value}
  (hf : ∀ v u s2 x y H2, Inv X pins σ H2 s2 → RelV x v → RelV y u → R x y H2 → wpAny (model X.prog X.w) X.A (f v u) Q X.xe s2) :
  wpAny (model X.prog X.w) X.A (eval a X.env) (fun v s₁ => wpAny (model X.prog X.w) X.A (eval b X.env) (fun u s₂ => wpAny (model X.prog X.w) X.A (f v u) Q X.xe s₂) X.xe s₁) X.xe s := by
 refine thn (ha pins s σ H _ I h) fun v s1 ⟨x, H1, I1, r1, q1⟩ => ?_
 refine thn (hb pins s1 σ H1 _ I1 q1) fun u s2 ⟨y, H2, I2, r2, q2⟩ => ?_
 exact hf v u s2 x y H2 I2 r1 r2 q2
theorem zarl {op : Operator} {r : R2} (ho : OpR X (binaryOp op) r) (ha : PE X a ta) (hb : PE X b tb) : PE X (.BinOp a op b pos) (tOp r ta tb) := by
 intro pins s σ H Q I h
 exact wpAny_BinOp (binT ha hb I h fun v u s2 x y H2 I2 rx ry q => ho pins s2 σ H2 x y v u Q I2 rx ry q)
theorem zarm {op : UnaryOp} {r : V → Hp → VK → Prop} (ho : UnR X (unaryOp op) r) (ha : PE X a ta) : PE X (.UnaryOp op a pos) (tUn r ta) := by
 intro pins s σ H Q I h
 exact UnaryOp_ (thn (ha pins s σ H _ I h) fun v s1 ⟨x, H1, I1, r1, q1⟩ => ho pins s1 σ H1 x v Q I1 r1 q1)
theorem opI {f : Value → Value → Sem Value} {C : Int → Int → Prop} {g : Int → Int → Int}
  (rule : ∀ (i j : Int) (t u : Tok) (s : Shared) (Q : Value → Shared → Prop) (E : Value → Shared → Prop), C i j → Q (.int (g i j) s.toks) { s with toks := s.toks + 1 } → wpAny (model X.prog X.w) X.A (f (.int i t) (.int j u)) Q E s) :
  OpR X f (rI C fun i j => .int (g i j)) := by
 intro pins s σ H x y v u Q I rx ry h
 obtain ⟨i, j, rfl, rfl, hc, q⟩ := h
 obtain ⟨t, rfl⟩ := rx
 obtain ⟨t', rfl⟩ := ry
 exact rule i j t t' s _ _ hc ⟨.int (g i j), H, I.tok _, ⟨_, rfl⟩, q⟩
theorem opI0 {f : Value → Value → Sem Value} {g : Int → Int → Int}
  (rule : ∀ (i j : Int) (t u : Tok) (s : Shared) (Q : Value → Shared → Prop) (E : Value → Shared → Prop), Q (.int (g i j) s.toks) { s with toks := s.toks + 1 } → wpAny (model X.prog X.w) X.A (f (.int i t) (.int j u)) Q E s) :
  OpR X f (rI0 fun i j => .int (g i j)) := by
 intro pins s σ H x y v u Q I rx ry h
 obtain ⟨i, j, rfl, rfl, q⟩ := h
 obtain ⟨t, rfl⟩ := rx
 obtain ⟨t', rfl⟩ := ry
 exact rule i j t t' s _ _ ⟨.int (g i j), H, I.tok _, ⟨_, rfl⟩, q⟩
theorem opB0 {f : Value → Value → Sem Value} {g : Int → Int → Bool}
  (rule : ∀ (i j : Int) (t u : Tok) (s : Shared) (Q : Value → Shared → Prop) (E : Value → Shared → Prop), Q (.bool (g i j)) s → wpAny (model X.prog X.w) X.A (f (.int i t) (.int j u)) Q E s) :
  OpR X f (rI0 fun i j => .bl (g i j)) := by
 intro pins s σ H x y v u Q I rx ry h
 obtain ⟨i, j, rfl, rfl, q⟩ := h
 obtain ⟨t, rfl⟩ := rx
 obtain ⟨t', rfl⟩ := ry
 exact rule i j t t' s _ _ ⟨.bl (g i j), H, I, rfl, q⟩
def CDiv (i j : Int) : Prop := 0 < j ∧ j < 1073741824
def CDivN (i j : Int) : Prop := j ≠ 0 ∧ j.natAbs < 1073741824
def CPow (i j : Int) : Prop := 0 ≤ j ∧ j ≤ 1000000 ∧ i.natAbs < 2 ^ 64
def CMul (i j : Int) : Prop := (-(2 ^ 64) < i ∧ i < 2 ^ 64) ∨ (-(2 ^ 64) < j ∧ j < 2 ^ 64)
theorem CMul.ok {i j : Int} (h : CMul i j) : IntMulOk i j := by
 rcases h with ⟨h1, h2⟩ | ⟨h1, h2⟩
 ·exact .of_left (intBits_le_64 h1 h2)
 ·exact .of_right (intBits_le_64 h1 h2)
theorem zabw : OpR X (binaryOp .Add) (rI0 fun i j => .int (i + j)) := opI0 fun _ _ _ _ _ _ _ q => add_int q
theorem zack : OpR X (binaryOp .Sub) (rI0 fun i j => .int (i - j)) := opI0 fun _ _ _ _ _ _ _ q => sub_int q
theorem zadi : OpR X (binaryOp .Mult) (rI CMul fun i j => .int (i * j)) := opI fun _ _ _ _ _ _ _ hc q => mul_int q hc.ok
theorem zacu : OpR X (binaryOp .Mod) (rI (fun _ j => 0 < j) fun i j => .int (i % j)) := opI fun i j _ _ _ _ _ hc q => by
 have h1 : (0 : Int) < j := hc
 exact mod_int' (by omega) (by rw [Int.fmod_eq_emod_of_nonneg i (by omega)]; exact q)
theorem zaqn : OpR X (binaryOp .Pow) (rI CPow fun i j => .int (i ^ j.toNat)) := opI fun _ _ _ _ _ _ _ hc q => pow_int_small hc.1 hc.2.1 hc.2.2 q
theorem unI {f : Value → Sem Value} {g : Int → Int}
  (rule : ∀ (i : Int) (t : Tok) (s : Shared) (Q : Value → Shared → Prop) (E : Value → Shared → Prop), Q (.int (g i) s.toks) { s with toks := s.toks + 1 } → wpAny (model X.prog X.w) X.A (f (.int i t)) Q E s) :
  UnR X f (rU fun i => .int (g i)) := by
 intro pins s σ H x v Q I rx h
 obtain ⟨i, rfl, q⟩ := h
 obtain ⟨t, rfl⟩ := rx
 exact rule i t s _ _ ⟨.int (g i), H, I.tok _, ⟨_, rfl⟩, q⟩
theorem zab2 : UnR X (unaryOp .USub) (rU fun i => .int (-i)) := unI fun _ _ _ _ _ q => neg_int q
end
def scal : V → V → Bool
 | .non, .non => true | .non, .int _ => true | .int _, .non => true | .non, .bl _ => true | .bl _, .non => true | .non, .str _ => true | .str _, .non => true
 | .int _, .int _ => true | .bl _, .bl _ => true | .str _, .str _ => true | .byt _, .byt _ => true
 | .int _, .str _ => true | .str _, .int _ => true | .bl _, .str _ => true | .str _, .bl _ => true
 | _, _ => false
def rEq : R2 := fun x y H Q => scal x y = true ∧ Q (.bl (decide (x = y))) H
def rNe : R2 := fun x y H Q => scal x y = true ∧ Q (.bl (!decide (x = y))) H
theorem zajc {i j : Int} : decide (V.int i = V.int j) = (i == j) := by
 rw [Bool.eq_iff_iff]
 simp
theorem zanm {i j : Bool} : decide (V.bl i = V.bl j) = (i == j) := by
 rw [Bool.eq_iff_iff]
 simp
theorem zajd {i j : Str} : decide (V.str i = V.str j) = (i == j) := by
 rw [Bool.eq_iff_iff]
 simp
theorem zaje {i j : Array UInt8} : decide (V.byt i = V.byt j) = (i.toList == j.toList) := by
 rw [Bool.eq_iff_iff]
 cases i
 cases j
 simp
section
variable {X : Cx} {a b c : Expr} {ta tb tc : TE} {pos : Pos}
theorem zabl {pins : List (Addr × Obj)} {σ : St} {H : Hp} {s : Shared} {Q : VK} {k k' : Bool} (I : Inv X pins σ H s) (q : Q (.bl k) H) (e : k = k') : EP X pins σ Q (.bool k') s := by
 subst e
 exact ⟨.bl k, H, I, rfl, q⟩
theorem zacw : OpR X (compareOp .Eq) rEq := by
 intro pins s σ H x y v u Q I rx ry h
 obtain ⟨hs, q⟩ := h
 cases x with
 | non =>
  cases rx
  cases y with
  | non => cases ry; exact PySem.EqNone.eq_none_none (zabl I q (by simp))
  | bl j => cases ry; exact PySem.EqNone.eq_none_bool (zabl I q (by simp))
  | int j => obtain ⟨t', rfl⟩ := ry; exact PySem.EqNone.eq_none_int (zabl I q (by simp))
  | str j => obtain ⟨t', rfl⟩ := ry; exact PySem.EqNone.eq_none_str (zabl I q (by simp))
  | _ => exact absurd (show false = true from hs) Bool.false_ne_true
 | bl i =>
  cases rx
  cases y with
  | non => cases ry; exact PySem.EqNone.eq_bool_none (zabl I q (by simp))
  | bl j => cases ry; exact eq_bool (zabl I q zanm)
  | str j => obtain ⟨t', rfl⟩ := ry; exact PySem.EqMixed.eq_bool_str (zabl I q (by simp))
  | _ => exact absurd (show false = true from hs) Bool.false_ne_true
 | int i =>
  obtain ⟨t, rfl⟩ := rx
  cases y with
  | non => cases ry; exact PySem.EqNone.eq_int_none (zabl I q (by simp))
  | int j => obtain ⟨t', rfl⟩ := ry; exact eq_int (zabl I q zajc)
  | str j => obtain ⟨t', rfl⟩ := ry; exact PySem.EqMixed.eq_int_str (zabl I q (by simp))
  | _ => exact absurd (show false = true from hs) Bool.false_ne_true
 | str i =>
  obtain ⟨t, rfl⟩ := rx
  cases y with
  | non => cases ry; exact PySem.EqNone.eq_str_none (zabl I q (by simp))
  | bl j => cases ry; exact PySem.EqMixed.eq_str_bool (zabl I q (by simp))
  | int j => obtain ⟨t', rfl⟩ := ry; exact PySem.EqMixed.eq_str_int (zabl I q (by simp))
  | str j => obtain ⟨t', rfl⟩ := ry; exact eq_str (zabl I q zajd)
  | _ => exact absurd (show false = true from hs) Bool.false_ne_true
 | byt i =>
  obtain ⟨t, rfl⟩ := rx
  cases y with
  | byt j => obtain ⟨t', rfl⟩ := ry; exact PySem.W.eq_bytes (zabl I q zaje)
  | _ => exact absurd (show false = true from hs) Bool.false_ne_true
 | _ => cases y <;> exact absurd (show false = true from hs) Bool.false_ne_true
theorem zadb : OpR X (compareOp .NotEq) rNe := by
 intro pins s σ H x y v u Q I rx ry h
 obtain ⟨hs, q⟩ := h
 cases x with
 | non =>
  cases rx
  cases y with
  | non => cases ry; exact PySem.EqNone.ne_none_none (zabl I q (by simp))
  | bl j => cases ry; exact PySem.EqNone.ne_none_bool (zabl I q (by simp))
  | int j => obtain ⟨t', rfl⟩ := ry; exact PySem.EqNone.ne_none_int (zabl I q (by simp))
  | str j => obtain ⟨t', rfl⟩ := ry; exact PySem.EqNone.ne_none_str (zabl I q (by simp))
  | _ => exact absurd (show false = true from hs) Bool.false_ne_true
 | bl i =>
  cases rx
  cases y with
  | non => cases ry; exact PySem.EqNone.ne_bool_none (zabl I q (by simp))
  | bl j => cases ry; exact ne_bool (zabl I q (congrArg not zanm))
  | str j => obtain ⟨t', rfl⟩ := ry; exact PySem.EqMixed.ne_bool_str (zabl I q (by simp))
  | _ => exact absurd (show false = true from hs) Bool.false_ne_true
 | int i =>
  obtain ⟨t, rfl⟩ := rx
  cases y with
  | non => cases ry; exact PySem.EqNone.ne_int_none (zabl I q (by simp))
  | int j => obtain ⟨t', rfl⟩ := ry; exact ne_int (zabl I q (congrArg not zajc))
  | str j => obtain ⟨t', rfl⟩ := ry; exact PySem.EqMixed.ne_int_str (zabl I q (by simp))
  | _ => exact absurd (show false = true from hs) Bool.false_ne_true
 | str i =>
  obtain ⟨t, rfl⟩ := rx
  cases y with
  | non => cases ry; exact PySem.EqNone.ne_str_none (zabl I q (by simp))
  | bl j => cases ry; exact PySem.EqMixed.ne_str_bool (zabl I q (by simp))
  | int j => obtain ⟨t', rfl⟩ := ry; exact PySem.EqMixed.ne_str_int (zabl I q (by simp))
  | str j => obtain ⟨t', rfl⟩ := ry; exact ne_str (zabl I q (congrArg not zajd))
  | _ => exact absurd (show false = true from hs) Bool.false_ne_true
 | byt i =>
  obtain ⟨t, rfl⟩ := rx
  cases y with
  | byt j => obtain ⟨t', rfl⟩ := ry; exact PySem.W.ne_bytes (zabl I q (congrArg not zaje))
  | _ => exact absurd (show false = true from hs) Bool.false_ne_true
 | _ => cases y <;> exact absurd (show false = true from hs) Bool.false_ne_true
theorem zag5 : OpR X (compareOp .Lt) (rI0 fun i j => .bl (decide (i < j))) := opB0 fun _ _ _ _ _ _ _ q => lt_int q
theorem zag6 : OpR X (compareOp .LtE) (rI0 fun i j => .bl (decide (i ≤ j))) := opB0 fun _ _ _ _ _ _ _ q => le_int q
theorem zaog : OpR X (compareOp .Gt) (rI0 fun i j => .bl (decide (j < i))) := opB0 fun _ _ _ _ _ _ _ q => gt_int q
theorem zaeu : OpR X (compareOp .Is) (fun x y H Q => y = .non ∧ Q (.bl (decide (x = .non))) H) := by
 intro pins s σ H x y v u Q I rx ry h
 obtain ⟨rfl, q⟩ := h
 cases ry
 refine is_none_gen (zabl I q ?_)
 cases x <;> first
  | (cases rx; rfl)
  | (obtain ⟨t, rfl⟩ := rx; rfl)
def isObj : HO → Bool
 | .lst _ => true
 | .ins _ _ _ => true
 | _ => false
theorem nomark (b : Expr) {op : CmpOp} (h : op ≠ .In := by decide) (h2 : op ≠ .NotIn := by decide) : behindInMarks op b = false := by
 have e1 : (op == CmpOp.In) = false := by cases op <;> first | rfl | exact absurd rfl h
 have e2 : (op == CmpOp.NotIn) = false := by cases op <;> first | rfl | exact absurd rfl h2
 cases b <;> simp [behindInMarks, e1, e2]
theorem zaoh {op : CmpOp} {r : R2} (ho : OpR X (compareOp op) r) (ha : PE X a ta) (hb : PE X b tb) (hm : behindInMarks op b = false) : PE X (.Compare a [op] [b] pos) (tOp r ta tb) := by
 intro pins s σ H Q I h
 exact wpAny_Compare1 (binT ha hb I h fun v u s2 x y H2 I2 rx ry q => ho pins s2 σ H2 x y v u Q I2 rx ry q) hm
def tTest (t : TE) : TT := fun σ H Q => t σ H fun x H' => ∃ k, x = .bl k ∧ Q k H'
theorem zaoi {op : CmpOp} {r : R2} (ho : OpR X (compareOp op) r) (ha : PE X a ta) (hb : PE X b tb) (hm : behindInMarks op b = false) : PT X (.Compare a [op] [b] pos) (tTest (tOp r ta tb)) := by
 intro pins s σ H Q I h
 refine wpAny_isTrue_Compare1 (thn (ha pins s σ H _ I h) fun v s1 ⟨x, H1, I1, r1, q1⟩ => thn (hb pins s1 σ H1 _ I1 q1) fun u s2 ⟨y, H2, I2, r2, q2⟩ =>
  thn (ho pins s2 σ H2 x y v u _ I2 r1 r2 q2) fun c s3 ⟨z, H3, I3, r3, k, e, q3⟩ => ?_) hm
 subst e
 cases r3
 exact wpAny_truthy_bool ⟨H3, I3, q3⟩
def tChain (r r' : R2) (ta tb tc : TE) : TE := fun σ H Q => ta σ H fun x H1 => tb σ H1 fun y H2 => r x y H2 fun z H3 => ∃ k, z = .bl k ∧
 (if k = true then tc σ H3 fun w' H4 => r' y w' H4 Q else Q (.bl false) H3)
theorem zal7 {op op' : CmpOp} {r r' : R2} (ho : OpR X (compareOp op) r) (ho' : OpR X (compareOp op') r') (ha : PE X a ta) (hb : PE X b tb) (hc : PE X c tc)
  (hm : lastMarks [op, op'] [b, c] = false := by with_unfolding_all rfl) : PE X (.Compare a [op, op'] [b, c] pos) (tChain r r' ta tb tc) := by
 intro pins s σ H Q I h
 refine Compare_chain (thn (ha pins s σ H _ I h) fun v s1 ⟨x, H1, I1, r1, q1⟩ => chain_link (thn (hb pins s1 σ H1 _ I1 q1) fun u s2 ⟨y, H2, I2, r2, q2⟩ =>
  thn (ho pins s2 σ H2 x y v u _ I2 r1 r2 q2) fun d s3 ⟨z, H3, I3, r3, k, e, q3⟩ => ?_)) hm
 subst e
 cases r3
 refine wpAny_truthy_bool ?_
 cases k with
 | false => exact ite_ff ⟨.bl false, H3, I3, rfl, q3⟩
 | true => exact ite_tt (chain_last (thn (hc pins s3 σ H3 _ I3 q3) fun w' s4 ⟨z', H4, I4, r4, q4⟩ => ho' pins s4 σ H4 y z' u w' Q I4 r2 r4 q4))
theorem zal8 {op op' : CmpOp} {r r' : R2} (ho : OpR X (compareOp op) r) (ho' : OpR X (compareOp op') r') (ha : PE X a ta) (hb : PE X b tb) (hc : PE X c tc)
  (hm : lastMarks [op, op'] [b, c] = false := by with_unfolding_all rfl) : PT X (.Compare a [op, op'] [b, c] pos) (tTest (tChain r r' ta tb tc)) := by
 intro pins s σ H Q I h
 refine isTrue_chain (thn (ha pins s σ H _ I h) fun v s1 ⟨x, H1, I1, r1, q1⟩ => test_link (thn (hb pins s1 σ H1 _ I1 q1) fun u s2 ⟨y, H2, I2, r2, q2⟩ =>
  thn (ho pins s2 σ H2 x y v u _ I2 r1 r2 q2) fun d s3 ⟨z, H3, I3, r3, k, e, q3⟩ => ?_)) hm
 subst e
 cases r3
 refine wpAny_truthy_bool ?_
 cases k with
 | false =>
  obtain ⟨k', e', q'⟩ := q3
  cases e'
  exact ite_ff ⟨H3, I3, q'⟩
 | true =>
  refine ite_tt (test_last (thn (hc pins s3 σ H3 _ I3 q3) fun w' s4 ⟨z', H4, I4, r4, q4⟩ => thn (ho' pins s4 σ H4 y z' u w' _ I4 r2 r4 q4) fun d' s5 ⟨z2, H5, I5, r5, k2, e2, q5⟩ => ?_))
  subst e2
  cases r5
  exact wpAny_truthy_bool ⟨H5, I5, q5⟩
def TruV (K : PySem.W.Frag) (x : V) (H : Hp) (k : Bool) : Prop :=
 match x with
 | .non => k = false
 | .bl b => k = b
 | .int i => k = (i != 0)
 | .str y => y.length ≤ sizeLine ∧ k = ((y.length : Int) != 0)
 | .byt y => y.size ≤ sizeLine ∧ k = ((y.size : Int) != 0)
 | .ref p => (∃ xs, SqL K H p xs ∧ k = !xs.isEmpty) ∨ (∃ xs, SqT K H p xs ∧ k = !xs.isEmpty) ∨ ∃ kvs, H p = some (.dK kvs) ∧ k = !kvs.isEmpty
 | _ => False
theorem line63 : (sizeLine : Nat) < 2 ^ 63 := by rw [sizeLine_eq]; decide
def PlainIxT (b : Expr) : Prop := ∀ o i, subscripted b false o i = operate [o, i] (getItem o i)
theorem vals1 {x : V} {us : List Value} (r : Vals [x] us) : ∃ u, us = [u] ∧ RelV x u := by
 cases r with
 | cons r1 r2 => cases r2; exact ⟨_, rfl, r1⟩
theorem vals2 {x y : V} {us : List Value} (r : Vals [x, y] us) : ∃ u w', us = [u, w'] ∧ RelV x u ∧ RelV y w' := by
 cases r with
 | cons r1 r2 =>
  cases r2 with
  | cons r3 r4 => cases r4; exact ⟨_, _, rfl, r1, r3⟩
theorem zage (hc : X.calm = true) : CallR X (.builtin "min") (fun xs H Q => ∃ i j, xs = [.int i, .int j] ∧ Q (.int (if j < i then j else i)) H) := by
 intro pins s σ H xs us Q I r h
 obtain ⟨i, j, rfl, q⟩ := h
 obtain ⟨u, w', rfl, ⟨t, rfl⟩, ⟨t', rfl⟩⟩ := vals2 r
 refine min_two_ints (I.ok.hd hc) fun h' tk k => ⟨_, H, I.kept k, ?_, q⟩
 by_cases hj : j < i
 ·rw [if_pos hj, if_pos hj]; exact ⟨_, rfl⟩
 ·rw [if_neg hj, if_neg hj]; exact ⟨_, rfl⟩
theorem zajf : CallR X (.type "int") (fun xs H Q => (∃ i, xs = [.int i] ∧ Q (.int i) H) ∨ ∃ k, xs = [.bl k] ∧ Q (.int (if k then 1 else 0)) H) := by
 intro pins s σ H xs us Q I r h
 rcases h with ⟨i, rfl, q⟩ | ⟨k, rfl, q⟩
 ·obtain ⟨u, rfl, t, rfl⟩ := vals1 r
  exact call_int_int ⟨.int i, H, I, ⟨_, rfl⟩, q⟩
 ·obtain ⟨u, rfl, r1⟩ := vals1 r
  cases r1
  exact call_int_bool ⟨.int (if k then 1 else 0), H, I.tok _, ⟨_, rfl⟩, q⟩
def LenV (K : PySem.W.Frag) (x : V) (H : Hp) (n : Nat) : Prop :=
 match x with
 | .str y => y.length ≤ sizeLine ∧ n = y.length
 | .byt y => y.size ≤ sizeLine ∧ n = y.size
 | .ref p => (∃ xs, SqL K H p xs ∧ n = xs.length) ∨ ∃ xs, SqT K H p xs ∧ n = xs.length
 | _ => False
end
structure ObjM (h : Heap) (x dx C : Addr) (mA : Str → Option Value) : Prop where
 obj : h.get? x = some (PySem.W.instObj C dx)
 ns : h.Ns1 dx mA
 ne : dx ≠ x
theorem zajg {h : Heap} {dx : Addr} {mA : Str → Option Value} (n : h.Ns1 dx mA) : ∃ od, h.get? dx = some od ∧ ∀ name, PySem.W.lookIn name od = some (mA name) := by
 obtain ⟨o, es, ep, ho, hd, hk, _, hm⟩ := n
 refine ⟨o, ho, fun name => ?_⟩
 have e := hm name
 unfold nsFind findBy at e
 rw [← Array.find?_toList] at e
 unfold PySem.W.lookIn
 rw [hd]
 dsimp only
 split
 ·rename_i y q
  rw [q] at e
  exact congrArg some e
 ·rename_i q
  rw [q] at e
  have a : es.toList.any (·.refKey) = false := by
   rw [List.any_eq_false]
   intro y hy
   obtain ⟨z, t, hkey⟩ := hk y (Array.mem_toList_iff.mp hy)
   simp [DictEntry.refKey, hkey]
  have a' : ¬ es.toList.any (·.refKey) = true := by rw [a]; exact Bool.false_ne_true
  rw [if_neg a']
  exact congrArg some e
theorem ObjM.look {h : Heap} {x dx C : Addr} {mA : Str → Option Value} (I : ObjM h x dx C mA) : ∃ od, PySem.W.InstAt h x (PySem.W.instObj C dx) C (some od) ∧ ∀ name, PySem.W.lookIn name od = some (mA name) :=
 let ⟨od, ho, hl⟩ := zajg I.ns
 ⟨od, ⟨I.obj, rfl, rfl, ho⟩, hl⟩
section
variable {prog : Program} {w : World} {A : Around} {E : Value → Shared → Prop} {s : Shared} {K : PySem.W.Frag} {x dx C f : Addr} {mA : Str → Option Value} {name : Str} {v : Value}
theorem zaoj {expr : Bool} {Q : Value → Shared → Prop} (X : K.In s.heap) (I : ObjM s.heap x dx C mA) (hg : PySem.W.plainGet K C name = true) (hh : PySem.W.hasDictIn K C = true)
  (ha : PySem.W.findIn K (.ref C) name = some none) (hv : mA name = some v) (hv' : PySem.W.handedIn v = true) (h : Q v { s with toks := s.toks + 1 }) :
  wpAny (model prog w) A (getAttr (.ref x) name expr) Q E s := by
 obtain ⟨od, J, hl⟩ := I.look
 exact PySem.W.get_value X J (PySem.W.plainGet_of hg).1 (PySem.W.findObj_own hh ha rfl (by rw [hl, hv])) hv' h
theorem zaok {ns : List Str} {Q : Unit → Shared → Prop} (X : K.In s.heap) (I : ObjM s.heap x dx C mA)
  (hs : PySem.W.findIn K (.ref C) "__setattr__" = some (some (.builtin "object.__setattr__"))) (hp : PySem.W.plainOver K C = true) (ht : PySem.W.takerIn K C name = some none) (hh : PySem.W.hasDictIn K C = true)
  (hw : PySem.Within mA ns) (hsz : ns.length ≤ sizeLine)
  (h : ∀ h', ObjM h' x dx C (fun y => if y = name then some v else mA y) → Heap.SameBut dx s.heap h' → Q () { s with heap := h', toks := s.toks + 2 }) :
  wpAny (model prog w) A (setAttr (.ref x) name v) Q E s := by
 obtain ⟨od, J, hl⟩ := I.look
 refine PySem.W.set_plain X J hs (PySem.W.osa_open (s := { s with toks := s.toks + 1 }) (r := none) X J hp ht fun b => ?_)
 obtain ⟨cd, hc, hd'⟩ := PySem.W.any_some hh
 have hx : s.heap.get? x = some ⟨.ref C, some dx, .plain, #[]⟩ := I.obj
 refine wpAny_bind (wpAny_pure (wpAny_bind (wpAny_bind (wpAny_loadPart hx (wpAny_bind (PySem.W.Looks.here (s := { s with toks := s.toks + 1 }) (PySem.W.looks_clsIn X hc) ?_))))))
 rw [hd']
 refine wpAny_pure (a := some dx) (wpAny_bind (wpAny_pure (wpAny_bind ?_)))
 refine wpAny_nsSet1 (s := { s with toks := s.toks + 1 }) I.ns fun h' hn2 hs2 => ?_
 obtain ⟨oD, esD, epD, hoD, hdD, hcD⟩ := hn2.count (PySem.Within.cons name v hw)
 refine wpAny_bind (wpAny_lookBehind hoD (by rw [hdD]; exact pastItsLine_dict (Nat.le_trans hcD (by rw [List.length_cons]; omega))) ?_)
 exact wpAny_pure (h _ ⟨(hs2.2 _ (Ne.symm I.ne)).trans I.obj, hn2, I.ne⟩ hs2)
theorem zah2 {R : Result → Shared → Prop} {vs : List Value} {kw : List (Str × Value)} (X : K.In s.heap) (hm : PySem.W.makesIn K C = true)
  (hi : PySem.W.findIn K (.ref C) "__init__" = some (some (.ref f))) (hf : PySem.W.typeIn K (.ref f) = some (.type "function"))
  (h : codeAny (model prog w) (A.under (.builtin "type.__call__" ⟨.ref C :: vs, kw⟩)) (.call (.ref f) ⟨.ref (s.heap.objs.size + 1) :: vs, kw⟩) (PySem.W.InitBack (s.heap.objs.size + 1) R)
   { s with heap := (s.heap.push PySem.W.emptyDict).push (PySem.W.instObj C s.heap.objs.size) }) :
  codeAny (model prog w) A (.call (.ref C) ⟨vs, kw⟩) R s := by
 obtain ⟨hh, g, d, t, os⟩ := s
 exact PySem.W.make_core (PySem.W.makes_of X hm) (PySem.W.looks_findIn X hi) (fun self => PySem.W.bind_fn X self hf) (.inl rfl) h
end
def putF (f : Str) (v : V) : List (Str × V) → List (Str × V)
 | [] => [(f, v)]
 | (g, x) :: r => if g = f then (g, v) :: r else (g, x) :: putF f v r
theorem zad8 (f g : Str) (v : V) : ∀ fs : List (Str × V), (putF f v fs).lookup g = if g = f then some v else fs.lookup g
 | [] => by
  show List.lookup g [(f, v)] = _
  by_cases h : g = f
  ·have hb : (g == f) = true := beq_iff_eq.mpr h
   simp only [List.lookup, hb, if_pos h]
  ·have hb : (g == f) = false := beq_eq_false_iff_ne.mpr h
   simp only [List.lookup, hb, if_neg h]
 | (k, x) :: r => by
  have ih := zad8 f g v r
  rw [show putF f v ((k, x) :: r) = (if k = f then (k, v) :: r else (k, x) :: putF f v r) from rfl]
  by_cases hk : k = f
  ·rw [if_pos hk]
   by_cases h : g = k
   ·have hb : (g == k) = true := beq_iff_eq.mpr h
    simp only [List.lookup, hb, if_pos (h.trans hk)]
   ·have hb : (g == k) = false := beq_eq_false_iff_ne.mpr h
    simp only [List.lookup, hb, if_neg (fun e : g = f => h (e.trans hk.symm))]
  ·rw [if_neg hk]
   by_cases h : g = k
   ·have hb : (g == k) = true := beq_iff_eq.mpr h
    simp only [List.lookup, hb, if_neg (fun e : g = f => hk (h.symm.trans e))]
   ·have hb : (g == k) = false := beq_eq_false_iff_ne.mpr h
    simp only [List.lookup, hb]
    exact ih
theorem zad9 (f : Str) (v : V) : ∀ fs : List (Str × V), f ∈ (putF f v fs).map (·.1) ∧ ∀ g, g ∈ fs.map (·.1) → g ∈ (putF f v fs).map (·.1)
 | [] => ⟨by simp [putF], fun g h => by simp at h⟩
 | (k, x) :: r => by
  obtain ⟨i1, i2⟩ := zad9 f v r
  rw [show putF f v ((k, x) :: r) = (if k = f then (k, v) :: r else (k, x) :: putF f v r) from rfl]
  by_cases hk : k = f
  ·rw [if_pos hk]
   subst hk
   exact ⟨by simp, fun g h => by simpa using h⟩
  ·rw [if_neg hk]
   refine ⟨?_, fun g h => ?_⟩
   ·rw [List.map_cons]
    exact List.mem_cons_of_mem _ i1
   ·rw [List.map_cons] at h ⊢
    rcases List.mem_cons.mp h with e | e
    ·exact List.mem_cons.mpr (.inl e)
    ·exact List.mem_cons_of_mem _ (i2 g e)
theorem zaea (f : Str) (v : V) : ∀ fs : List (Str × V), (putF f v fs).length ≤ fs.length + 1
 | [] => by simp [putF]
 | (k, x) :: r => by
  have ih := zaea f v r
  rw [show putF f v ((k, x) :: r) = (if k = f then (k, v) :: r else (k, x) :: putF f v r) from rfl]
  by_cases hk : k = f
  ·rw [if_pos hk, List.length_cons, List.length_cons]; omega
  ·rw [if_neg hk, List.length_cons, List.length_cons]; omega
theorem RelO.some_of {v : V} {o : Option Value} (r : RelO (some v) o) : ∃ u, o = some u ∧ RelV v u := by
 cases o with
 | none => exact (show False from r).elim
 | some u => exact ⟨u, rfl, r⟩
theorem zajh {v : V} {u : Value} (r : RelV v u) : PySem.W.handedIn u = true := by
 cases v with
 | non => cases (show u = Value.none from r); rfl
 | bl b => cases (show u = Value.bool b from r); rfl
 | int i => obtain ⟨t, e⟩ := (show ∃ t, u = Value.int i t from r); cases e; rfl
 | str x => obtain ⟨t, e⟩ := (show ∃ t, u = Value.str x t from r); cases e; rfl
 | byt b => obtain ⟨t, e⟩ := (show ∃ t, u = Value.bytes b t from r); cases e; rfl
 | flt b => obtain ⟨t, e⟩ := (show ∃ t, u = Value.float b t from r); cases e; rfl
 | ref a => cases (show u = Value.ref a from r); rfl
 | ty n => cases (show u = Value.type n from r); rfl
section
variable {P : Program} {w : World} {H H' : Hp} {h h' : Heap} {a C dx : Addr} {fs fs' : List (Str × V)}
theorem zae9 (hok : HOk P w H h) (e : H a = some (.ins C dx fs)) : ∃ mA, ObjM h a dx C mA ∧ (∀ f, RelO (fs.lookup f) (mA f)) ∧ PySem.Within mA (fs.map (·.1)) ∧ fs.length ≤ 1000 ∧ H dx = some (.own a) := by
 obtain ⟨d, z, ne, ob, mA, n, r, q⟩ := (show ObjOk P w H h a (.ins C dx fs) from hok a _ e)
 exact ⟨mA, ⟨ob, n, ne⟩, r, q, z, d⟩
end
structure Cls (K : PySem.W.Frag) (C : Addr) : Prop where
 pg : PySem.W.plainGet K C Str.empty = true
 hd : PySem.W.hasDictIn K C = true
 po : PySem.W.plainOver K C = true
 sa : PySem.W.findIn K (.ref C) "__setattr__" = some (some (.builtin "object.__setattr__"))
theorem Cls.get {K : PySem.W.Frag} {C : Addr} (c : Cls K C) (f : Str) : PySem.W.plainGet K C f = true := c.pg
def NoAttr (K : PySem.W.Frag) (C : Addr) (f : Str) : Prop := PySem.W.findIn K (.ref C) f = some none
theorem NoAttr.taker {K : PySem.W.Frag} {C : Addr} {f : Str} (n : NoAttr K C f) : PySem.W.takerIn K C f = some none := by
 unfold PySem.W.takerIn
 rw [show PySem.W.findIn K (.ref C) f = some none from n]
 rfl
structure Con (K : PySem.W.Frag) (C : Addr) (f : Str) (v : V) (u : Value) : Prop where
 at_ : PySem.W.findIn K (.ref C) f = some (some u)
 rel : RelV v u
 get : PySem.W.specialIn K u "__get__" = some none
 cp : PySem.W.copiedNames.contains f = false
structure Meth (K : PySem.W.Frag) (C : Addr) (m : Str) (f : Addr) : Prop where
 at_ : PySem.W.findIn K (.ref C) m = some (some (.ref f))
 fn : PySem.W.isFn K (.ref f) = true
 kp : PySem.W.keepIn K (.ref f) = true
section
variable {X : Cx} {pins : List (Addr × Obj)} {σ : St} {H : Hp} {s : Shared} {a C dx : Addr} {fs : List (Str × V)} {f : Str} {v : V} {A : Around} {E : Value → Shared → Prop}
theorem zaio {b : Bool} {Q : Value → Shared → Prop} (I : Inv X pins σ H s) (e : H a = some (.ins C dx fs)) (c : Cls X.K C) (n : NoAttr X.K C f) (l : fs.lookup f = some v)
  (h : ∀ u s', Inv X pins σ H s' → RelV v u → Q u s') : wpAny (model X.prog X.w) A (getAttr (.ref a) f b) Q E s := by
 obtain ⟨mA, O, r, _, _, _⟩ := zae9 I.hok e
 obtain ⟨u, hu, ru⟩ := RelO.some_of (v := v) (o := mA f) (by rw [← l]; exact r f)
 exact zaoj I.kIn O (c.get f) c.hd n hu (zajh ru) (h u _ (I.tok _) ru)
theorem zaip {y : V} {u : Value} {Q : Unit → Shared → Prop} (I : Inv X pins σ H s) (e : H a = some (.ins C dx fs)) (c : Cls X.K C) (n : NoAttr X.K C f) (hl : fs.length < 1000) (ry : RelV y u)
  (h : ∀ s', Inv X pins σ (upd H a (.ins C dx (putF f y fs))) s' → Q () s') : wpAny (model X.prog X.w) A (setAttr (.ref a) f u) Q E s := by
 obtain ⟨mA, O, r, wi, _, ho⟩ := zae9 I.hok e
 have hz : (fs.map (·.1)).length ≤ sizeLine := by rw [List.length_map, sizeLine_eq]; omega
 refine zaok I.kIn O c.sa c.po n.taker c.hd wi hz fun h' O' sb => h _ ?_
 have hd : ∃ o, h'.get? dx = some o := let ⟨o, _, _, e', _⟩ := O'.ns; ⟨o, e'⟩
 refine I.write (x := a) (e := dx) (by rw [e]; exact True.intro) (.inr ho) (fun b q hb z => (sb.2 b hb).trans z) hd ?_
 refine ⟨by rw [zaa5 O.ne]; exact ho, ?_, O.ne, O'.obj, _, O'.ns, fun g => ?_, fun g hg => ?_⟩
 ·have := zaea f y fs; omega
 ·show RelO ((putF f y fs).lookup g) (if g = f then some u else mA g)
  rw [zad8]
  by_cases q : g = f
  ·rw [if_pos q, if_pos q]; exact ry
  ·rw [if_neg q, if_neg q]; exact r g
 ·by_cases q : g = f
  ·rw [q]; exact (zad9 f y fs).1
  ·refine (zad9 f y fs).2 g (wi g fun z => hg ?_)
   show (if g = f then some u else mA g) = none
   rw [if_neg q]; exact z
theorem Inv.made (I : Inv X pins σ H s) : Inv X pins σ (upd (upd H s.heap.objs.size (.own (s.heap.objs.size + 1))) (s.heap.objs.size + 1) (.ins C s.heap.objs.size []))
  { s with heap := (s.heap.push PySem.W.emptyDict).push (PySem.W.instObj C s.heap.objs.size) } := by
 have e1 : (s.heap.push PySem.W.emptyDict).get? s.heap.objs.size = some PySem.W.emptyDict := Heap.get?_push_size s.heap rfl
 have e2 : ((s.heap.push PySem.W.emptyDict).push (PySem.W.instObj C s.heap.objs.size)).get? (s.heap.objs.size + 1) = some (PySem.W.instObj C s.heap.objs.size) := by
  have := Heap.get?_push_size (s.heap.push PySem.W.emptyDict) (o := PySem.W.instObj C s.heap.objs.size) rfl
  rwa [Heap.size_push] at this
 have e3 : (s.heap.push PySem.W.emptyDict).Ns s.heap.objs.size (fun _ => none) := ⟨PySem.W.emptyDict, #[], _, e1, rfl, (fun e he => absurd he (by simp)), fun _ => rfl⟩
 have I1 := I.laid (a := s.heap.objs.size) (o := .own (s.heap.objs.size + 1)) (h' := s.heap.push PySem.W.emptyDict) (t' := s.toks) (fun b u q => Heap.get?_push_of_some _ q) (Nat.le_refl _) ⟨_, e1⟩
 refine I1.laid (a := s.heap.objs.size + 1) (o := .ins C s.heap.objs.size []) (t' := s.toks) (fun b u q => Heap.get?_push_of_some _ q) (Nat.le_of_eq (Heap.size_push _ _)) ?_
 have ne : s.heap.objs.size ≠ s.heap.objs.size + 1 := Nat.ne_of_lt (Nat.lt_succ_self _)
 refine ⟨by rw [zaa5 ne, zaal], Nat.zero_le _, ne, e2, fun _ => none, (Heap.Ns1.of_empty e3).at fun o q => Heap.get?_push_of_some _ q, fun _ => True.intro, fun y hy => absurd rfl hy⟩
theorem zaol {prog : Program} {w : World} {env : Env} {e : Expr} {f : Str} {pos : Pos} {s : Shared} {Q : Value → Shared → Prop} (hb : attributeBase e f env (eval e env) = eval e env)
  (h : wpAny (model prog w) A (eval e env) (fun o s₁ => wpAny (model prog w) A (getAttr o f true) Q E s₁) E s) : wpAny (model prog w) A (eval (.Attribute e f pos) env) Q E s :=
 Attribute_any_ h (by rw [arm_eval_Attribute, hb])
end
def tFld (K : PySem.W.Frag) (ta : TE) (f : Str) : TE := fun σ H Q => ta σ H fun x H1 => ∃ a C dx fs v, x = .ref a ∧ H1 a = some (.ins C dx fs) ∧ Cls K C ∧ NoAttr K C f ∧ fs.lookup f = some v ∧ Q v H1
def tCon (K : PySem.W.Frag) (ta : TE) (f : Str) : TE := fun σ H Q => ta σ H fun x H1 => ∃ a C dx fs v u, x = .ref a ∧ H1 a = some (.ins C dx fs) ∧ Cls K C ∧ Con K C f v u ∧ fs.lookup f = none ∧ Q v H1
def sFld (K : PySem.W.Frag) (ta tv : TE) (f : Str) : TS := fun D σ H => tv σ H fun y H1 => ta σ H1 fun x H2 => ∃ a C dx fs, x = .ref a ∧ H2 a = some (.ins C dx fs) ∧ Cls K C ∧ NoAttr K C f ∧ fs.length < 1000 ∧
 D.nx σ (upd H2 a (.ins C dx (putF f y fs)))
def InOp (X : Cx) (op : Operator) (rd : V → V → Hp → VK → Prop) : Prop :=
 ∀ (pins : List (Addr × Obj)) (s : Shared) (σ : St) (H : Hp) (x y : V) (u v : Value) (Q : VK), Inv X pins σ H s → RelV x u → RelV y v → rd x y H Q → wpAny (model X.prog X.w) X.A (inplaceOp op u v) (EP X pins σ Q) X.xe s
def sFldAug (K : PySem.W.Frag) (ta tv : TE) (rd : V → V → Hp → VK → Prop) (f : Str) : TS := fun D σ H => ta σ H fun x H1 => ∃ a C dx fs v, x = .ref a ∧ H1 a = some (.ins C dx fs) ∧ Cls K C ∧ NoAttr K C f ∧ fs.lookup f = some v ∧
 tv σ H1 fun y H2 => rd v y H2 fun z H3 => ∃ dx' fs', H3 a = some (.ins C dx' fs') ∧ fs'.length < 1000 ∧ D.nx σ (upd H3 a (.ins C dx' (putF f z fs')))
section
variable {X : Cx} {o e value : Expr} {f : Str} {pos pos' tpos : Pos} {ta tv : TE}
theorem zann (he : PE X e ta) (hb : attributeBase e f X.env (eval e X.env) = eval e X.env) : PE X (.Attribute e f pos) (tFld X.K ta f) := by
 intro pins s σ H Q I h
 refine zaol hb (thn (he pins s σ H _ I h) fun u s1 ⟨x, H1, I1, rx, a, C, dx, fs, v, ex, ea, c, n, l, q⟩ => ?_)
 subst ex
 obtain rfl : u = Value.ref a := rx
 exact zaio I1 ea c n l fun u' s2 I2 ru => ⟨v, H1, I2, ru, q⟩
theorem zaqo (ha : PE X o ta) (hv : PE X value tv) (hs : swapsWith value (some (.Attribute o f pos')) pos.line X.env = pure false) : PS X (.Assign [.Attribute o f pos'] value pos) (sFld X.K ta tv f) := by
 intro pins s σ H D I h
 refine plainObj_wpAny_Assign_Attribute (thn (hv pins s σ H _ I h) fun u s1 ⟨y, H1, I1, ry, q⟩ => thn (ha pins s1 σ H1 _ I1 q) fun ov s2 ⟨x, H2, I2, rx, a, C, dx, fs, ex, ea, c, n, l, q2⟩ => ?_) hs
 subst ex
 obtain rfl : ov = Value.ref a := rx
 exact zaip I2 ea c n l ry fun s3 I3 => ⟨σ, _, I3, q2⟩
def rAdd : V → V → Hp → VK → Prop := fun x y H Q => ∃ i j, x = .int i ∧ y = .int j ∧ Q (.int (i + j)) H
def rSub : V → V → Hp → VK → Prop := fun x y H Q => ∃ i j, x = .int i ∧ y = .int j ∧ Q (.int (i - j)) H
end
section
variable {X : Cx} {pins : List (Addr × Obj)} {σ : St} {H : Hp} {s : Shared} {A : Around} {E : Value → Shared → Prop} {Q : Value → Shared → Prop} {c : Value} {b : Bool}
inductive TyOf (K : PySem.W.Frag) (H : Hp) : V → Value → Prop where
 | non : TyOf K H .non (.type "NoneType")
 | bl (x : Bool) : TyOf K H (.bl x) (.type "bool")
 | int (i : Int) : TyOf K H (.int i) (.type "int")
 | str (x : Str) : TyOf K H (.str x) (.type "str")
 | flt (x : UInt64) : TyOf K H (.flt x) (.type "float")
 | lst {a : Addr} {xs : List V} (e : H a = some (.lst xs)) : TyOf K H (.ref a) (.type "list")
 | frz {a : Addr} {o : Obj} {xs : List V} (e : H a = some (.frz o (.lst xs))) : TyOf K H (.ref a) (.type "list")
 | tup {a : Addr} {xs : List V} (e : H a = some (.tup xs)) : TyOf K H (.ref a) (.type "tuple")
 | dK {a : Addr} {kvs : List (Key × V)} (e : H a = some (.dK kvs)) : TyOf K H (.ref a) (.type "dict")
 | dT {a : Addr} {kvs : List (List Key × V)} (e : H a = some (.dT kvs)) : TyOf K H (.ref a) (.type "dict")
 | ins {a C dx : Addr} {fs : List (Str × V)} (e : H a = some (.ins C dx fs)) (cl : Cls K C) (ha : PySem.W.findIn K (.ref C) "__class__" = some (some (.builtin "object.__class__")))
   (hn : PySem.W.specialIn K (.builtin "object.__class__") "__get__" = some (some (.builtin "getset_descriptor.__get__"))) (htk : PySem.W.takesIn K (.builtin "object.__class__") = some true)
   (hm : PySem.W.mroIn K C (.type "object") = some true) : TyOf K H (.ref a) (.ref C)
theorem zaji {x : V} {u t : Value} (I : Inv X pins σ H s) (rx : RelV x u) (ty : TyOf X.K H x t) (e : PySem.W.kitOne X.K t c = some b) (h : ∀ tk, Q (.bool b) { s with toks := tk }) :
  wpAny (model X.prog X.w) A (call (.builtin "isinstance") [u, c]) Q E s := by
 cases ty with
 | non => cases (show u = Value.none from rx); exact PySem.W.kia_one PySem.W.kitx_none I.kIn True.intro e (fun z => nomatch z) h
 | bl y => cases (show u = Value.bool y from rx); exact PySem.W.kia_one PySem.W.kitx_bool I.kIn True.intro e (fun z => nomatch z) h
 | int i => obtain ⟨t, q⟩ := (show ∃ t, u = Value.int i t from rx); cases q; exact PySem.W.kia_one PySem.W.kitx_int I.kIn True.intro e (fun z => nomatch z) h
 | str y => obtain ⟨t, q⟩ := (show ∃ t, u = Value.str y t from rx); cases q; exact PySem.W.kia_one PySem.W.kitx_str I.kIn True.intro e (fun z => nomatch z) h
 | flt y => obtain ⟨t, q⟩ := (show ∃ t, u = Value.float y t from rx); cases q; exact PySem.W.kia_one PySem.W.kitx_float I.kIn True.intro e (fun z => nomatch z) h
 | @lst a xs ea =>
  cases (show u = Value.ref a from rx)
  obtain ⟨_, _, n, _, h1⟩ := (show ObjOk X.prog X.w H s.heap a (.lst xs) from I.hok a _ ea)
  exact PySem.W.kia_one PySem.W.kitx_list I.kIn ⟨_, h1, rfl⟩ e (fun z => nomatch z) h
 | @frz a ob xs ea =>
  cases (show u = Value.ref a from rx)
  obtain ⟨_, _, _, n, _, h1⟩ := (show ObjOk X.prog X.w H s.heap a (.frz ob (.lst xs)) from I.hok a _ ea)
  exact PySem.W.kia_one PySem.W.kitx_list I.kIn ⟨_, h1, rfl⟩ e (fun z => nomatch z) h
 | @tup a xs ea =>
  cases (show u = Value.ref a from rx)
  obtain ⟨_, _, _, p⟩ := (show ObjOk X.prog X.w H s.heap a (.tup xs) from I.hok a _ ea)
  obtain ⟨o, h1, h2, _⟩ := p
  exact PySem.W.kia_one PySem.W.kitx_tuple I.kIn ⟨o, h1, h2⟩ e (fun z => nomatch z) h
 | @dK a kvs ea =>
  cases (show u = Value.ref a from rx)
  obtain ⟨_, _, vs, _, p⟩ := (show ObjOk X.prog X.w H s.heap a (.dK kvs) from I.hok a _ ea)
  obtain ⟨o, es, ep, h1, h2, _⟩ := p
  exact PySem.W.kia_one PySem.W.kitx_dict I.kIn ⟨o, h1, h2.1⟩ e (fun z => nomatch z) h
 | @dT a kvs ea =>
  cases (show u = Value.ref a from rx)
  obtain ⟨_, _, xs, _, o, es, ep, h1, h2, _⟩ := (show ObjOk X.prog X.w H s.heap a (.dT kvs) from I.hok a _ ea)
  exact PySem.W.kia_one PySem.W.kitx_dict I.kIn ⟨o, h1, h2.1⟩ e (fun z => nomatch z) h
 | @ins a C dx fs ea cl ha hn htk hm =>
  cases (show u = Value.ref a from rx)
  obtain ⟨mA, O, _⟩ := zae9 I.hok ea
  obtain ⟨od, J, _⟩ := O.look
  exact PySem.W.kia_one (PySem.W.kitx_own (cl.get _) cl.hd ha hn htk hm) I.kIn J e (fun z => nomatch z) h
end
structure Room (k : Nat) (A : Around) : Prop where
 hd : A.handled = none
 dp : A.depth + 3 * k + 5 < recursionLimit
 un : A.units + 16 * k + 200 < cLine
theorem Room.mono {j k : Nat} {A : Around} (r : Room k A) (h : j ≤ k) : Room j A := ⟨r.hd, by have := r.dp; omega, by have := r.un; omega⟩
theorem Room.deeper {k : Nat} {A : Around} (r : Room (k + 1) A) (env : Env) : Room k (A.deeper env) :=
 ⟨r.hd, by have := r.dp; show A.depth + 1 + 3 * k + 5 < _; omega, by have := r.un; show A.units + 3 + 16 * k + 200 < _; omega⟩
theorem zaiq {A : Around} {C : Addr} {us : List Value} {kw : List (Str × Value)} : (A.under (.builtin "type.__call__" ⟨.ref C :: us, kw⟩)).depth = A.depth + 1 := by
 first | rfl | simp [Around.under, Code.weight, Code.isCreation, Code.isGuard, Code.isCaller, Code.frames, Code.isFrame, guardIds]
theorem zair {A : Around} {C : Addr} {us : List Value} {kw : List (Str × Value)} : (A.under (.builtin "type.__call__" ⟨.ref C :: us, kw⟩)).units = A.units + 1 := by
 first | rfl | simp [Around.under, Code.cUnits, Code.frames, Code.isFrame]
theorem Room.make {k : Nat} {A : Around} (r : Room (k + 1) A) (C : Addr) (us : List Value) (kw : List (Str × Value)) : Room k (A.under (.builtin "type.__call__" ⟨.ref C :: us, kw⟩)) :=
 ⟨r.hd, by have := r.dp; rw [zaiq]; omega, by have := r.un; rw [zair]; omega⟩
theorem Room.depth {k : Nat} {A : Around} (r : Room k A) : A.depth < recursionLimit := by have := r.dp; omega
theorem Room.units {k : Nat} {A : Around} (r : Room k A) : A.units + 64 < cLine := by have := r.un; omega
def tNil : TA := fun _ H Q => Q [] H
def tCons (ta : TE) (tr : TA) : TA := fun σ H Q => ta σ H fun x H1 => tr σ H1 fun xs H2 => Q (x :: xs) H2
section
variable {X : Cx} {e : Expr} {es : List Expr} {te : TE} {t : TA} {pos : Pos}
theorem zaqp : PA X [] tNil := fun _ _ _ _ H Q I h => Calls.spliced_nil ⟨[], H, I, .nil, h⟩
theorem zaom (ha : PE X e te) (hr : PA X es t) (hs : starEach (e :: es) X.env = (false, eval e X.env) :: starEach es X.env := by rfl) : PA X (e :: es) (tCons te t) := by
 intro pos pins s σ H Q I h
 rw [hs]
 show wpAny _ _ (spliced ((false, eval e X.env) :: backTo pos (starEach es X.env))) _ _ s
 refine Calls.spliced_cons (thn (ha pins s σ H _ I h) fun u s1 ⟨x, H1, I1, r1, q1⟩ => ?_)
 exact thn (hr pos pins s1 σ H1 _ I1 q1) fun us s2 ⟨xs, H2, I2, r2, q2⟩ => ⟨x :: xs, H2, I2, .cons r1 r2, q2⟩
def tTup (t : TA) : TE := fun σ H Q => t σ H fun xs H1 => xs.length ≤ sizeLine ∧ ∀ p, H1 p = none → Q (.ref p) (upd H1 p (.tup xs))
def tLst (t : TA) : TE := fun σ H Q => t σ H fun xs H1 => xs.length ≤ sizeLine ∧ ∀ p, H1 p = none → Q (.ref p) (upd H1 p (.lst xs))
theorem zaqq {x1} (h : PA X es t) : PE X (.Tuple es x1 pos) (tTup t) := by
 intro pins s σ H Q I hq
 refine wpAny_Tuple_spliced (thn (h pos pins s σ H _ I hq) fun us s1 ⟨xs, H1, I1, r, z, q⟩ => ⟨by rw [← r.length]; exact z, ?_⟩)
 have hf : H1 s1.heap.objs.size = none := I1.hok.fresh (Nat.le_refl _)
 refine ⟨.ref s1.heap.objs.size, upd H1 s1.heap.objs.size (.tup xs), I1.laid (t' := s1.toks) (fun b u e => Heap.get?_push_of_some _ e) (Nat.le_refl _) ?_, rfl, q _ hf⟩
 exact ⟨z, us, r, ⟨_, Heap.get?_push_size _ rfl, rfl, _, rfl⟩⟩
theorem zaqr (h : PA X es t) : PE X (.List es pos) (tLst t) := by
 intro pins s σ H Q I hq
 refine wpAny_List_spliced (thn (h pos pins s σ H _ I hq) fun us s1 ⟨xs, H1, I1, r, z, q⟩ => ⟨by rw [← r.length]; exact z, ?_⟩)
 have hf : H1 s1.heap.objs.size = none := I1.hok.fresh (Nat.le_refl _)
 refine ⟨.ref s1.heap.objs.size, upd H1 s1.heap.objs.size (.lst xs), I1.laid (t' := s1.toks) (fun b u e => Heap.get?_push_of_some _ e) (Nat.le_refl _) ?_, rfl, q _ hf⟩
 exact ⟨z, us, 0, r, Heap.get?_push_size _ rfl⟩
end
abbrev Sp := List V → Hp → VK → XK → Prop
abbrev CXT := List Env → Hp → Shared → XK → Value → Shared → Prop
structure Env0 (P : Program) (w : World) (K : PySem.W.Frag) (mg : Str → Option Value) (base : Heap) (A : Around) (outer : List Env) (s : Shared) (H : Hp) : Prop where
 frames : A.frames = some outer
 mod : Mod K mg base
 bs : ∀ b o, base.get? b = some o → s.heap.get? b = some o ∧ H b = none
 bsz : base.objs.size ≤ s.heap.objs.size
 funs : s.heap.FunFrames base outer
 frf : ∀ b ∈ frs outer, H b = none
 hok : HOk P w H s.heap
 bare : AllBare s.gens
def CE (outer : List Env) (P : Program) (w : World) (H : Hp) (s : Shared) (Q : VK) (u : Value) (s' : Shared) : Prop :=
 ∃ v H', s'.os = s.os ∧ AllBare s'.gens ∧ Un (frs outer) [] H H' s.heap s'.heap ∧ HOk P w H' s'.heap ∧ RelV v u ∧ Q v H'
def CR (CX : CXT) (outer : List Env) (P : Program) (w : World) (H : Hp) (s : Shared) (Q : VK) (E : XK) (r : Result) (s' : Shared) : Prop :=
 match r with
 | .ok (.ret u) => CE outer P w H s Q u s'
 | .ok _ => False
 | .error e => CX outer H s E e s'
structure FnOk (P : Program) (w : World) (K : PySem.W.Frag) (mg : Str → Option Value) (base : Heap) (CX : CXT) (k : Nat) (f : Addr) (fd : FuncData) (ps : List Str) (sp : Sp) : Prop where
 len : ∀ vs H Q E, sp vs H Q E → vs.length = ps.length
 run : ∀ (A : Around) (outer : List Env) (s : Shared) (H : Hp) (args : Args) (us : List Value) (vs : List V) (Q : VK) (E : XK), Room k A → Env0 P w K mg base A outer s H → BindsTo s fd args (ps.zip us) → Vals vs us → sp vs H Q E →
  codeAny (model P w) A (.call (.ref f) args) (CR CX outer P w H s Q E) s
theorem FnOk.mono {P : Program} {w : World} {K : PySem.W.Frag} {mg : Str → Option Value} {base : Heap} {CX : CXT} {j k : Nat} {f : Addr} {fd : FuncData} {ps : List Str} {sp : Sp} (F : FnOk P w K mg base CX j f fd ps sp) (h : j ≤ k) :
  FnOk P w K mg base CX k f fd ps sp := ⟨F.len, fun A outer s H args us vs Q E hr => F.run A outer s H args us vs Q E (hr.mono h)⟩
theorem Env0.make {P : Program} {w : World} {K : PySem.W.Frag} {mg : Str → Option Value} {base : Heap} {A : Around} {outer : List Env} {s : Shared} {H : Hp} (e : Env0 P w K mg base A outer s H) (C : Addr) (us : List Value) (kw : List (Str × Value)) :
  Env0 P w K mg base (A.under (.builtin "type.__call__" ⟨.ref C :: us, kw⟩)) outer s H := ⟨by first | exact e.frames | (simpa [Around.under, Code.envs, Code.isFrame, pushEnvs] using e.frames), e.mod, e.bs, e.bsz, e.funs, e.frf, e.hok, e.bare⟩
section
variable {X : Cx} {pins : List (Addr × Obj)} {σ : St} {H : Hp} {s s' : Shared}
theorem Inv.env0 (I : Inv X pins σ H s) : Env0 X.prog X.w X.K X.mg X.base X.A X.stack s H :=
 ⟨I.ok.frames, I.ok.mod, I.bs, Nat.le_trans I.ok.bsz I.sz, I.stack, I.stkFree, I.hok, I.bare⟩
theorem Inv.after {Q : VK} {u : Value} (I : Inv X pins σ H s) (h : CE X.stack X.prog X.w H s Q u s') : EP X pins σ Q u s' := by
 obtain ⟨v, H', os, bare, un, hok, r, q⟩ := h
 obtain ⟨hh, g, d, t, os'⟩ := s'
 obtain rfl : os' = s.os := os
 exact ⟨v, H', I.call (h' := hh) (g' := g) (d' := d) (t' := t) (ch := []) un hok bare (fun b z => absurd z (by simp)), r, q⟩
end
def tCall (sp : Sp) (dvs : List V) (E : XK) (t : TA) : TE := fun σ H Q => t σ H fun vs H1 => sp (vs ++ dvs) H1 Q E
def tMeth (C : Addr) (m : Str) (sp : Sp) (dvs : List V) (E : XK) (ta : TE) (t : TA) : TE := fun σ H Q => ta σ H fun x H1 => ∃ a dx fs, x = .ref a ∧ H1 a = some (.ins C dx fs) ∧ fs.lookup m = none ∧
 t σ H1 fun vs H2 => sp (x :: (vs ++ dvs)) H2 Q E
def tMake (C : Addr) (sp : Sp) (dvs : List V) (E : XK) (t : TA) : TE := fun σ H Q => t σ H fun vs H1 => ∀ x dx, H1 x = none → H1 dx = none → dx ≠ x →
 sp (.ref x :: (vs ++ dvs)) (upd (upd H1 dx (.own x)) x (.ins C dx [])) (fun v H2 => v = .non ∧ Q (.ref x) H2) E
def Binds (K : PySem.W.Frag) (fd : FuncData) (ps : List Str) (ds : List Value) : Prop :=
 ∀ (s : Shared) (us : List Value), K.In s.heap → (us ++ ds).length = ps.length → BindsTo s fd ⟨us, []⟩ (ps.zip (us ++ ds))
theorem Binds.all {K : PySem.W.Frag} {fd : FuncData} {ps : List Str} (h : ∀ us : List Value, us.length = ps.length → bindArgs fd ⟨us, []⟩ = pure (ps.zip us)) : Binds K fd ps [] := fun s us _ hl => by
 rw [List.append_nil] at hl ⊢
 exact .of_eq (h us hl)
def Passes (CX : CXT) (X : Cx) (E : XK) : Prop := ∀ (pins : List (Addr × Obj)) (σ : St) (H : Hp) (s : Shared) (e : Value) (s' : Shared), Inv X pins σ H s → CX X.stack H s E e s' → X.xe e s'
section
variable {X : Cx} {CX : CXT} {k : Nat} {f C : Addr} {fd : FuncData} {ps : List Str} {sp : Sp} {dvs : List V} {ds : List Value} {E : XK} {x m : Str} {p pos apos : Pos} {e o : Expr} {es : List Expr} {ta : TE} {t : TA}
theorem zaqs {pins : List (Addr × Obj)} {σ : St} {H : Hp} {s : Shared} {Q : VK} {us : List Value} {vs : List V} (F : FnOk X.prog X.w X.K X.mg X.base CX k f fd ps sp) (hr : Room k X.A) (hb : Binds X.K fd ps ds) (hd : Vals dvs ds) (hx : Passes CX X E)
  (I : Inv X pins σ H s) (r : Vals vs us) (h : sp (vs ++ dvs) H Q E) : wpAny (model X.prog X.w) X.A (call (.ref f) us) (EP X pins σ Q) X.xe s := by
 have r2 : Vals (vs ++ dvs) (us ++ ds) := r.append hd
 have hl : (us ++ ds).length = ps.length := by rw [← r2.length]; exact F.len _ _ _ _ h
 refine wpAny_call (codeAny_mono (F.run X.A X.stack s H ⟨us, []⟩ (us ++ ds) (vs ++ dvs) Q E hr I.env0 (hb s us I.kIn hl) r2 h) fun r s' hq => ?_)
 cases r with
 | error e => exact hx pins σ H s e s' I hq
 | ok fl =>
  cases fl with
  | ret u => exact I.after hq
  | next => exact False.elim hq
  | brk => exact False.elim hq
  | cont => exact False.elim hq
theorem zaon (F : FnOk X.prog X.w X.K X.mg X.base CX k f fd ps sp) (hr : Room k X.A) (hg : Gl X x) (hm : X.mg x = some (.ref f)) (hk : PySem.W.keepIn X.K (.ref f) = true) (hb : Binds X.K fd ps ds) (hd : Vals dvs ds) (hx : Passes CX X E)
  (ha : PA X (e :: es) t) (hdb : (x == ("__debug__" : Str)) = false := by decide) (he : starEach (e :: es) X.env = (false, eval e X.env) :: starEach es X.env := by rfl) (hpl : (backTo pos (starEach es X.env)).any (·.1) = false := by rfl) :
  PE X (.Call (.Name x p) (e :: es) [] pos) (tCall sp dvs E t) := by
 intro pins s σ H Q I h
 refine wpAny_Call_Name_kw (zada I hg hm ?_ hdb)
 refine PySem.W.callWith_K (h₀ := X.base) I.ok.mod.kin hk (thn (ha pos pins s σ H _ I h) fun us s1 ⟨vs, H1, I1, r, q⟩ => ⟨I1.kIn, ?_⟩) he hpl
 exact zaqs F hr hb hd hx I1 r q
structure Mk (K : PySem.W.Frag) (C f : Addr) : Prop where
 makes : PySem.W.makesIn K C = true
 init : PySem.W.findIn K (.ref C) "__init__" = some (some (.ref f))
 fn : PySem.W.isFn K (.ref f) = true
 kp : PySem.W.keepIn K (.ref C) = true
theorem zal9 {pins : List (Addr × Obj)} {σ : St} {H : Hp} {s : Shared} {Q : VK} {us : List Value} {vs : List V} (M : Mk X.K C f) (F : FnOk X.prog X.w X.K X.mg X.base CX k f fd ps sp) (hr : Room (k + 1) X.A) (hb : Binds X.K fd ps ds) (hd : Vals dvs ds)
  (hx : Passes CX X E) (I : Inv X pins σ H s) (r : Vals vs us)
  (h : ∀ x dx, H x = none → H dx = none → dx ≠ x → sp (.ref x :: (vs ++ dvs)) (upd (upd H dx (.own x)) x (.ins C dx [])) (fun v H2 => v = .non ∧ Q (.ref x) H2) E) :
  wpAny (model X.prog X.w) X.A (call (.ref C) us) (EP X pins σ Q) X.xe s := by
 have hq := h (s.heap.objs.size + 1) s.heap.objs.size (I.hok.fresh (Nat.le_succ _)) (I.hok.fresh (Nat.le_refl _)) (Nat.ne_of_lt (Nat.lt_succ_self _))
 have I2 := Inv.made (C := C) I
 have r2 : Vals (V.ref (s.heap.objs.size + 1) :: (vs ++ dvs)) (Value.ref (s.heap.objs.size + 1) :: (us ++ ds)) := .cons rfl (r.append hd)
 have hl : (Value.ref (s.heap.objs.size + 1) :: us ++ ds).length = ps.length := by
  have e := r2.length
  rw [F.len _ _ _ _ hq] at e
  exact e.symm
 refine wpAny_call (zah2 (f := f) I.kIn M.makes M.init (beq_iff_eq.mp M.fn) (codeAny_mono (F.run _ X.stack _ _ ⟨Value.ref (s.heap.objs.size + 1) :: us, []⟩ (Value.ref (s.heap.objs.size + 1) :: (us ++ ds)) _ _ E (hr.make C us [])
  (I2.env0.make C us []) (hb _ (Value.ref (s.heap.objs.size + 1) :: us) I2.kIn hl) r2 hq) fun r s' hq' => ?_))
 cases r with
 | error e => exact hx pins σ _ _ e s' I2 hq'
 | ok fl =>
  cases fl with
  | ret u =>
   obtain ⟨v, H', I3, rv, ev, q3⟩ := I2.after hq'
   subst ev
   exact ⟨rv, ⟨V.ref (s.heap.objs.size + 1), H', I3, rfl, q3⟩⟩
  | next => exact False.elim hq'
  | brk => exact False.elim hq'
  | cont => exact False.elim hq'
theorem zaoo (M : Mk X.K C f) (F : FnOk X.prog X.w X.K X.mg X.base CX k f fd ps sp) (hr : Room (k + 1) X.A) (hg : Gl X x) (hm : X.mg x = some (.ref C)) (hb : Binds X.K fd ps ds) (hd : Vals dvs ds) (hx : Passes CX X E)
  (ha : PA X (e :: es) t) (hdb : (x == ("__debug__" : Str)) = false := by decide) (he : starEach (e :: es) X.env = (false, eval e X.env) :: starEach es X.env := by rfl) (hpl : (backTo pos (starEach es X.env)).any (·.1) = false := by rfl) :
  PE X (.Call (.Name x p) (e :: es) [] pos) (tMake C sp dvs E t) := by
 intro pins s σ H Q I h
 refine wpAny_Call_Name_kw (zada I hg hm ?_ hdb)
 refine PySem.W.callWith_K (h₀ := X.base) I.ok.mod.kin M.kp (thn (ha pos pins s σ H _ I h) fun us s1 ⟨vs, H1, I1, r, q⟩ => ⟨I1.kIn, ?_⟩) he hpl
 exact zal9 M F hr hb hd hx I1 r q
end
def PK (X : Cx) (kws : List Keyword) (t : TA) : Prop :=
 ∀ (pos : Pos) (pins : List (Addr × Obj)) (s : Shared) (σ : St) (H : Hp) (Q : List V → Hp → Prop), Inv X pins σ H s → t σ H Q → wpAny (model X.prog X.w) X.A (evalAll ((backToKw pos (keywordEach kws X.env)).map (·.2))) (AP X pins σ Q) X.xe s
section
variable {X : Cx} {CX : CXT} {k : Nat} {f C : Addr} {fd : FuncData} {ps ks : List Str} {sp : Sp} {E : XK} {x m : Str} {p pos apos kpos : Pos} {e o : Expr} {es : List Expr} {kws : List Keyword} {te ta : TE} {t tk : TA} {nm : Option Str}
structure KBinds (K : PySem.W.Frag) (fd : FuncData) (ps ks : List Str) (g : List Value → List Value → List Value) (gV : List V → List V → List V) : Prop where
 to : ∀ (s : Shared) (us ws : List Value), K.In s.heap → (g us ws).length = ps.length → BindsTo s fd ⟨us, ks.zip ws⟩ (ps.zip (g us ws))
 rel : ∀ {vs : List V} {us : List Value} {zs : List V} {ws : List Value}, Vals vs us → Vals zs ws → Vals (gV vs zs) (g us ws)
def tCallK (sp : Sp) (gV : List V → List V → List V) (E : XK) (t tk : TA) : TE := fun σ H Q => t σ H fun vs H1 => tk σ H1 fun zs H2 => sp (gV vs zs) H2 Q E
variable {g : List Value → List Value → List Value} {gV : List V → List V → List V}
end
structure FnScope (N P : List Str) (sc : Scope) : Prop where
 kind : sc.kind = .function
 co : sc.isCoroutine = false
 gen : sc.isGenerator = false
 nd : N.Nodup
 pre : N.take P.length = P
 par : ∀ x ∈ P, sc.names.lookup x = some .local ∨ sc.names.lookup x = some .cell
 nofree : ∀ y ∈ sc.names, y.2 ≠ .free
theorem zagf {kindOf : Str → Option NameKind} {x : Str} : ∀ {binds : List (Str × Value)} {m : Str → Option Value}, (∀ v, (x, v) ∉ binds) → bindL kindOf binds m x = m x
 | [], _, _ => rfl
 | (n, v) :: r, m, h => by
  unfold bindL
  rw [zagf fun w hw => h w (List.mem_cons_of_mem _ hw)]
  split
  ·have : x ≠ n := by rintro rfl; exact h v List.mem_cons_self
   simp [this]
  ·rfl
theorem zagg {kindOf : Str → Option NameKind} {x : Str} : ∀ {binds : List (Str × Value)} {m : Str → Option Value}, (∀ v, (x, v) ∉ binds) → bindC kindOf binds m x = m x
 | [], _, _ => rfl
 | (n, v) :: r, m, h => by
  unfold bindC
  rw [zagg fun w hw => h w (List.mem_cons_of_mem _ hw)]
  split
  ·rfl
  ·have : x ≠ n := by rintro rfl; exact h v List.mem_cons_self
   simp [this]
theorem zagh {kindOf : Str → Option NameKind} {x : Str} {v : Value} : ∀ {P : List Str} {vs : List Value} {i : Nat} {m : Str → Option Value}, P.Nodup → P[i]? = some x → vs[i]? = some v → kindOf x = some .local →
  bindL kindOf (P.zip vs) m x = some v
 | [], _, _, _, _, h, _, _ => by simp at h
 | _ :: _, [], _, _, _, _, h, _ => by simp at h
 | p :: P, w :: vs, 0, m, nd, h1, h2, hk => by
  simp at h1 h2; subst h1; subst h2
  show bindL kindOf ((p, w) :: P.zip vs) m p = _
  unfold bindL
  rw [zagf fun v hv => (List.nodup_cons.mp nd).1 (List.of_mem_zip hv).1, if_pos hk]
  simp
 | p :: P, w :: vs, i + 1, m, nd, h1, h2, hk => by
  show bindL kindOf ((p, w) :: P.zip vs) m x = _
  unfold bindL
  exact zagh (i := i) (List.nodup_cons.mp nd).2 (by simpa using h1) (by simpa using h2) hk
theorem zagi {kindOf : Str → Option NameKind} {x : Str} {v : Value} : ∀ {P : List Str} {vs : List Value} {i : Nat} {m : Str → Option Value}, P.Nodup → P[i]? = some x → vs[i]? = some v → kindOf x ≠ some .local →
  bindC kindOf (P.zip vs) m x = some v
 | [], _, _, _, _, h, _, _ => by simp at h
 | _ :: _, [], _, _, _, _, h, _ => by simp at h
 | p :: P, w :: vs, 0, m, nd, h1, h2, hk => by
  simp at h1 h2; subst h1; subst h2
  show bindC kindOf ((p, w) :: P.zip vs) m p = _
  unfold bindC
  rw [zagg fun v hv => (List.nodup_cons.mp nd).1 (List.of_mem_zip hv).1, if_neg hk]
  simp
 | p :: P, w :: vs, i + 1, m, nd, h1, h2, hk => by
  show bindC kindOf ((p, w) :: P.zip vs) m x = _
  unfold bindC
  exact zagi (i := i) (List.nodup_cons.mp nd).2 (by simpa using h1) (by simpa using h2) hk
def start (N : List Str) (vs : List V) : St := vs.map some ++ List.replicate (N.length - vs.length) none
def cxOf (CX : CXT) (P : Program) (w : World) (K : PySem.W.Frag) (mg : Str → Option Value) (base : Heap) (N : List Str) (qual : Str) (scope : Scope) (f : Addr) (cd : Value) (A : Around) (outer : List Env) (s : Shared) (H : Hp) (E : XK) : Cx where
 prog := P
 w := w
 K := K
 mg := mg
 base := base
 A := A.deeper (envOfC qual scope s.heap.objs.size f cd)
 N := N
 s₀ := s
 H₀ := H
 env := envOfC qual scope s.heap.objs.size f cd
 outer := outer
 stack := envOfC qual scope s.heap.objs.size f cd :: outer
 ex := []
 calm := true
 fn := fun _ => true
 pn := []
 xe := fun e s' => wpAny (model P w) (A.deeper (envOfC qual scope s.heap.objs.size f cd)) (leaving (envOfC qual scope s.heap.objs.size f cd) e) (fun _ s'' => CX outer H s E e s'') (fun e' s'' => CX outer H s E e' s'') s'
theorem zah3 {sc : Scope} {n : Nat} {x : Str} (h : sc.names.lookup x = some .cell) : ∃ c, (cellsFrom n sc.names []).lookup x = some c := by
 have q := PySem.W.cellsFrom_some sc.names n [] (.inl h)
 exact Option.isSome_iff_exists.mp q
theorem zajj {CX : CXT} {P : Program} {w : World} {K : PySem.W.Frag} {mg : Str → Option Value} {base : Heap} {N ps : List Str} {qual : Str} {scope : Scope} {f : Addr} {cd : Value} {A : Around} {outer : List Env} {s s1 : Shared} {H : Hp} {E : XK} {us : List Value} {vs : List V}
  (S : FnScope N ps scope) (hd : A.handled = none) (e0 : Env0 P w K mg base A outer s H) (hl : vs.length = ps.length) (r : Vals vs us)
  (x : InCallC s s.heap.objs.size (bindL (envOfC qual scope s.heap.objs.size f cd).kindOf (ps.zip us) fun _ => none) (cellsFrom (s.heap.objs.size + 1) scope.names []) (bindC (envOfC qual scope s.heap.objs.size f cd).kindOf (ps.zip us) fun _ => none) s1) :
  Inv (cxOf CX P w K mg base N qual scope f cd A outer s H E) [] (start N vs) H s1 := by
 have hpl : ps.length ≤ N.length := by have := congrArg List.length S.pre; rw [List.length_take] at this; omega
 obtain ⟨h1, tk, rfl, hk⟩ := x.done
 have noA : ∀ b : Addr, b ∉ (cxOf CX P w K mg base N qual scope f cd A outer s H E).ex := fun b z => absurd (show b ∈ ([] : List Addr) from z) (by simp)
 refine ⟨⟨e0.mod, S.kind, rfl, rfl, Nat.le_refl _, fun y z c h1 h2 => ?_, fun y hy => ?_, fun y c _ h => ?_, fun _ => hd, Around.frames_deeper e0.frames, .inr ⟨rfl, rfl⟩, fun b z => absurd z (noA b), e0.bs, e0.bsz, fun b _ _ => noA b, fun b z => absurd z (noA b), e0.funs, e0.frf⟩,
  rfl, e0.bare, Un.kept hk, ⟨_, x.toInCall.ns, fun i y v h1 h2 h3 => ?_⟩, fun y c h => ⟨_, x.cell y c h⟩, e0.hok.fresh (Nat.le_refl _), fun y c h => ?_, fun p hp => absurd (show p ∈ ([] : List (Addr × Obj)) from hp) (by simp), e0.hok.kept hk, ?_⟩
 ·exact name_of_addr x.apart (PySem.mem_of_lookup h1) (PySem.mem_of_lookup h2)
 ·have hy : scope.names.lookup y = some .cell ∨ scope.names.lookup y = some .free := hy
  rcases hy with hy | hy
  ·exact zah3 hy
  ·exact absurd rfl (S.nofree _ (PySem.mem_of_lookup hy))
 ·exact Nat.le_of_lt (x.above y c (PySem.mem_of_lookup h))
 ·have hi : i < vs.length := by
   unfold start at h2
   by_cases hi : i < vs.length
   ·exact hi
   ·rw [List.getElem?_append_right (by simpa using hi)] at h2
    rw [List.getElem?_replicate] at h2
    split at h2 <;> cases h2
  have ha : vs[i]? = some v := by
   unfold start at h2
   rw [List.getElem?_append_left (by simpa using hi), List.getElem?_map] at h2
   cases e : vs[i]? with
   | none => rw [e] at h2; cases h2
   | some a => rw [e] at h2; cases h2; rfl
  obtain ⟨u, hu, rv⟩ := r.get ha
  have hp : ps[i]? = some y := by
   rw [← S.pre, List.getElem?_take_of_lt (by omega)]; exact h1
  have ndP : ps.Nodup := by rw [← S.pre]; exact S.nd.sublist (List.take_sublist _ _)
  refine ⟨u, rv, ?_⟩
  rcases S.par y (List.mem_of_getElem? hp) with k | k
  ·exact .inl ⟨k, zagh ndP hp hu k⟩
  ·obtain ⟨c, e⟩ := zah3 (n := s.heap.objs.size + 1) k
   refine .inr ⟨.inl k, c, e, ?_⟩
   have q := x.cell y c e
   rw [zagi ndP hp hu (by show scope.names.lookup y ≠ _; rw [k]; decide)] at q
   exact q
 ·exact e0.hok.fresh (Nat.le_of_lt (x.above y c (PySem.mem_of_lookup h)))
 ·unfold start
  show _ = N.length
  rw [List.length_append, List.length_map, List.length_replicate]
  omega
theorem zaqt {CX : CXT} {P : Program} {w : World} {K : PySem.W.Frag} {mg : Str → Option Value} {base : Heap} {k : Nat} {f : Addr} {name qual : Str} {params : Arguments} {body : List Stmt} {scope : Scope} {dV kV doc pm cdv ct oc : Value} {an od : Option Addr}
  {osl : Array (Option Value)} {N ps : List Str} {sp : Sp} (lk : K.lookup f = some ⟨oc, od, .func (PySem.W.fnOf name qual params body scope dV kV doc pm an cdv ct), osl⟩) (hcd : PySem.W.codeIn K cdv qual = true) (S : FnScope N ps scope)
  (len : ∀ vs H Q E, sp vs H Q E → vs.length = ps.length)
  (hbody : ∀ (A : Around) (outer : List Env) (s : Shared) (H : Hp) (vs : List V) (Q : VK) (E : XK), Room k (A.deeper (envOfC qual scope s.heap.objs.size f cdv)) → sp vs H Q E →
   ∃ t, PSs (cxOf CX P w K mg base N qual scope f cdv A outer s H E) body t ∧ t { nx := fun _ H' => Q .non H', rt := Q } (start N vs) H) :
  FnOk P w K mg base CX (k + 1) f (PySem.W.fnOf name qual params body scope dV kV doc pm an cdv ct) ps sp := by
 refine ⟨len, fun A outer s H args us vs Q E hr e0 hb r hsp => ?_⟩
 have hl := len _ _ _ _ hsp
 have KX : K.In s.heap := e0.mod.kin.keeps fun b o e => (e0.bs b o e).1
 have lim : s.heap.NoLimit := e0.mod.nolimit.keeps fun b o e => (e0.bs b o e).1
 have hkind : ∀ y ∈ ps.zip us, scope.names.lookup y.1 = some .local ∨ (scope.names.lookup y.1 = some .cell ∧ ((cellsFrom (s.heap.objs.size + 1) scope.names []).lookup y.1).isSome = true) := fun ⟨n, v⟩ hy => by
  rcases S.par n (List.of_mem_zip hy).1 with q | q
  ·exact .inl q
  ·exact .inr ⟨q, PySem.W.cellsFrom_some _ _ _ (.inl q)⟩
 refine codeAny_call_function hr.depth (KX _ _ lk) rfl S.co S.gen rfl (PySem.W.codeRec_of KX hcd) (hb _ _ _ _ ?_)
 refine wpAny_newFunctionEnv_cells S.kind hkind fun env he s1 x => ?_
 subst he
 refine ⟨lim.keeps x.toInCall.keep, codeAny_func ?_⟩
 obtain ⟨t, ht, hq⟩ := hbody A outer s H vs Q E (hr.deeper _) hsp
 have I : Inv (cxOf CX P w K mg base N qual scope f cdv A outer s H E) [] (start N vs) H s1 := zajj S hr.hd e0 hl r x
 refine wpAny_mono (ht [] s1 (start N vs) H _ I hq) (fun fl s' hs => ?_) fun e s' hs => hs
 have fin : ∀ {σ' : St} {H' : Hp} {v : V} {u : Value}, Inv (cxOf CX P w K mg base N qual scope f cdv A outer s H E) [] σ' H' s' → RelV v u → Q v H' → CE outer P w H s Q u s' :=
  fun {σ' H' v u} J rv q => ⟨v, H', J.os, J.bare, J.base, J.hok, rv, q⟩
 cases fl with
 | ret u =>
  obtain ⟨v, σ', H', J, rv, q⟩ := hs
  exact fin J rv q
 | next =>
  obtain ⟨σ', H', J, q⟩ := hs
  exact fin (v := V.non) (u := Value.none) J rfl q
 | brk =>
  obtain ⟨_, _, _, q⟩ := hs
  exact False.elim q
 | cont =>
  obtain ⟨_, _, _, q⟩ := hs
  exact False.elim q
section
variable {X : Cx} {x : Str} {p pos : Pos} {e : Expr} {es : List Expr} {t : TA} {id T : String} {r : List V → Hp → VK → Prop}
def tCB (r : List V → Hp → VK → Prop) (t : TA) : TE := fun σ H Q => t σ H fun vs H1 => r vs H1 Q
theorem zama (hc : CallR X (.builtin id) r) (hg : Gl X x) (hm : X.mg x = none) (hv : bootBuiltins x = some (.builtin id)) (ha : PA X (e :: es) t) (hn : x ≠ "__name__" := by decide) (hdb : (x == ("__debug__" : Str)) = false := by decide)
  (he : starEach (e :: es) X.env = (false, eval e X.env) :: starEach es X.env := by rfl) (hpl : (backTo pos (starEach es X.env)).any (·.1) = false := by rfl) : PE X (.Call (.Name x p) (e :: es) [] pos) (tCB r t) := by
 intro pins s σ H Q I h
 refine wpAny_Call_Name_kw (zaet I hg hm hv ?_ hn hdb)
 exact PyProof.Rows.callWith_builtin1 (thn (ha pos pins s σ H _ I h) fun us s1 ⟨vs, H1, I1, r1, q1⟩ => hc pins s1 σ H1 vs us Q I1 r1 q1) he hpl
theorem zajk (hc : CallR X (.type T) r) (hg : Gl X x) (hm : X.mg x = none) (hv : bootBuiltins x = some (.type T)) (ha : PA X (e :: es) t) (hn : x ≠ "__name__" := by decide) (hdb : (x == ("__debug__" : Str)) = false := by decide)
  (he : starEach (e :: es) X.env = (false, eval e X.env) :: starEach es X.env := by rfl) (hpl : (backTo pos (starEach es X.env)).any (·.1) = false := by rfl) : PE X (.Call (.Name x p) (e :: es) [] pos) (tCB r t) := by
 intro pins s σ H Q I h
 refine wpAny_Call_Name_kw (zaet I hg hm hv ?_ hn hdb)
 exact PyProof.Rows.callWith_type1 (thn (ha pos pins s σ H _ I h) fun us s1 ⟨vs, H1, I1, r1, q1⟩ => hc pins s1 σ H1 vs us Q I1 r1 q1) he hpl
end
end L2
namespace HT
open PySem PyProof.Rows
def lexLt : List Int → List Int → Bool
 | [], [] => false
 | [], _ :: _ => true
 | _ :: _, [] => false
 | x :: xs, y :: ys => if x = y then lexLt xs ys else decide (x < y)
section
open PySem.SeqAt
open PySem.AutoSeq1 (wpAny_loadPart')
open PySem.MeetsSeq PySem.MeetsSeq2 PySem.MeetsSeq3
end
section
variable {prog : Program} {w : World} {A : Around} {E : Value → Shared → Prop} {s : Shared}
def sIx (n d : Nat) : Option Int → Nat
 | none => d
 | some v => if v < 0 then (v + (n : Int)).toNat else min v.toNat n
theorem sIx_nat (n d k : Nat) : sIx n d (some (k : Int)) = min k n := by
 show (if (k : Int) < 0 then ((k : Int) + (n : Int)).toNat else min (k : Int).toNat n) = min k n
 rw [if_neg (by omega), Int.toNat_natCast]
theorem zaqu (n d : Nat) (hd : d ≤ n) (o : Option Int) : sIx n d o ≤ n := by
 cases o with
 | none => exact hd
 | some v =>
  show (if v < 0 then (v + (n : Int)).toNat else min v.toNat n) ≤ n
  by_cases hv : v < 0
  ·rw [if_pos hv]; omega
  ·rw [if_neg hv]; exact Nat.min_le_right _ _
theorem zajl (v : Int) (n d : Nat) : (if v < 0 then max (v + (n : Int)) 0 else min v (n : Int)) = ((sIx n d (some v) : Nat) : Int) := by
 show (if v < 0 then max (v + (n : Int)) 0 else min v (n : Int)) = (((if v < 0 then (v + (n : Int)).toNat else min v.toNat n) : Nat) : Int)
 by_cases hv : v < 0
 ·simp only [if_pos hv]; omega
 ·simp only [if_neg hv]; omega
theorem zais (lo hi : Option Int) (n : Nat) : Builtin.Slice.sliceAdjust lo hi 1 (n : Int) = (((sIx n 0 lo : Nat) : Int), ((sIx n n hi : Nat) : Int)) := by
 have h1 : ¬ ((1 : Int) < 0) := by omega
 unfold Builtin.Slice.sliceAdjust
 simp only [h1, if_false]
 refine Prod.ext ?_ ?_
 ·cases lo with
  | none => rfl
  | some v => exact zajl v n 0
 ·cases hi with
  | none => rfl
  | some v => exact zajl v n n
theorem zait (i j : Nat) : Builtin.Slice.slicePlaces (i : Int) (j : Int) 1 = j - i := by
 unfold Builtin.Slice.slicePlaces
 have h1 : (1 : Int) > 0 := by omega
 simp only [h1, if_true, Int.ediv_one]
 split <;> omega
theorem zaev {v : Value} {o : Option Int} {Q : Option Int → Shared → Prop} (p : IsPart v o) (h : Q o s) : wpAny (model prog w) A (Builtin.Slice.slicePartIndex v) Q E s := by
 cases p with
 | none => exact slicePart_none h
 | int i t => exact slicePart_int h
theorem zad2 {sl : Addr} {vl vu : Value} {lo hi : Option Int} {n : Nat} {Q : Int × Int × Nat → Shared → Prop} (hs : s.heap.IsSliceOf sl vl vu .none) (pl : IsPart vl lo) (pu : IsPart vu hi)
  (h : Q (((sIx n 0 lo : Nat) : Int), 1, sIx n n hi - sIx n 0 lo) s) : wpAny (model prog w) A (Builtin.Slice.sliceApplied (.ref sl) (pure (n : Int))) Q E s := by
 obtain ⟨os, hos, hcs, hds⟩ := id hs
 unfold Builtin.Slice.sliceApplied Builtin.Slice.sliceFields
 refine wpAny_bind (wpAny_bind (wpAny_field hos hds (x := vl) rfl (wpAny_bind (wpAny_field hos hds (x := vu) rfl (wpAny_bind (wpAny_field hos hds (x := .none) rfl (wpAny_pure ?_)))))))
 refine wpAny_bind (slicePart_none ?_)
 show wpAny _ _ (if ((1 : Int) == 0) = true then _ else _) _ _ s
 rw [if_neg (by decide)]
 refine wpAny_bind (zaev pl (wpAny_bind (zaev pu (wpAny_bind (wpAny_pure ?_)))))
 show wpAny _ _ (match Builtin.Slice.sliceAdjust lo hi 1 (n : Int) with | (lo, hi) => pure (lo, (1 : Int), Builtin.Slice.slicePlaces lo hi 1)) _ _ s
 rw [zais lo hi n]
 show wpAny _ _ (pure (((sIx n 0 lo : Nat) : Int), (1 : Int), Builtin.Slice.slicePlaces ((sIx n 0 lo : Nat) : Int) ((sIx n n hi : Nat) : Int) 1)) _ _ s
 rw [zait]
 exact wpAny_pure h
theorem zamb (xs : Array Value) (i k : Nat) : ((List.range k).filterMap fun (m : Nat) => xs[((i : Int) + (m : Int) * 1).toNat]?).toArray = ((xs.toList.drop i).take k).toArray := by
 have e : (fun (m : Nat) => xs[((i : Int) + (m : Int) * 1).toNat]?) = fun m => xs[i + m]? := by
  funext m
  have : ((i : Int) + (m : Int) * 1).toNat = i + m := by omega
  rw [this]
 rw [e]
 have := pick_run xs i k
 rw [List.filterMap_map] at this
 have e2 : ((fun x => xs[x]?) ∘ fun x => i + x) = fun m => xs[i + m]? := rfl
 rw [e2] at this
 rw [this]
theorem getItem_tuple_cut {t sl : Addr} {items : Array Value} {vl vu : Value} {lo hi : Option Int} {Q : Value → Shared → Prop} (ht : IsTup s.heap t items) (hs : s.heap.IsSliceOf sl vl vu .none) (pl : IsPart vl lo) (pu : IsPart vu hi)
  (hw : ¬ (sIx items.size 0 lo = 0 ∧ sIx items.size items.size hi = items.size))
  (h : Q (.ref s.heap.objs.size) { s with heap := s.heap.push { cls := .type "tuple", data := .seq ((items.toList.drop (sIx items.size 0 lo)).take (sIx items.size items.size hi - sIx items.size 0 lo)).toArray } })
  (hsz : items.size ≤ sizeLine) : wpAny (model prog w) A (getItem (.ref t) (.ref sl)) Q E s := by
 have htake : sizeOk (.seq ((items.toList.drop (sIx items.size 0 lo)).take (sIx items.size items.size hi - sIx items.size 0 lo)).toArray) := by
  show ((items.toList.drop (sIx items.size 0 lo)).take (sIx items.size items.size hi - sIx items.size 0 lo)).toArray.size ≤ sizeLine
  rw [List.size_toArray, List.length_take, List.length_drop, Array.length_toList]
  omega
 have hj : sIx items.size items.size hi ≤ items.size := zaqu _ _ (Nat.le_refl _) hi
 obtain ⟨os, hos, hcs, hds⟩ := id hs
 have hTs : s.TypeIs (.ref sl) "slice" := ⟨os, hos, hcs⟩
 unfold getItem
 try with_reducible refine wpAny_holding ?_
 first | refine wpAny_bind (wpAny_pure ?_) | skip
 refine wpAny_bind (wpAny_sequenceKey ht.typeIs (by decide) ?_)
 refine wpAny_bind (wpAny_callSpecial?_slot (name := Str.ofString "__getitem__") ht.typeIs PyProof.Rows.slot_tuple_getitem
  (wpAny_call_entry PyProof.Rows.slot_tuple_getitem ht.typeIs entry_tuple_getitem ?_ (args_tuple_getitem _ _)))
 show wpAny _ _ (Builtin.Tuple.tupleItemsOf (.ref t) >>= _) _ _ s
 refine wpAny_bind (tupleItemsOf_ ht ?_)
 refine wpAny_bind (wpAny_typeOf hTs ?_)
 rw [if_pos (by decide)]
 refine wpAny_bind (zad2 hs pl pu ?_)
 have hno : ¬ ((((sIx items.size 0 lo : Nat) : Int) == 0 && (1 : Int) == 1 && (sIx items.size items.size hi - sIx items.size 0 lo) == items.size) = true) := by
  intro q
  rw [Bool.and_eq_true, Bool.and_eq_true] at q
  have q1 : ((sIx items.size 0 lo : Nat) : Int) = 0 := eq_of_beq q.1.1
  have q2 : sIx items.size items.size hi - sIx items.size 0 lo = items.size := eq_of_beq q.2
  exact hw ⟨by omega, by omega⟩
 show wpAny _ _ (if (((sIx items.size 0 lo : Nat) : Int) == 0 && (1 : Int) == 1 && (sIx items.size items.size hi - sIx items.size 0 lo) == items.size) = true then _ else _) _ _ s
 rw [if_neg hno, zamb]
 first
  | exact wpAny_bind (m := Builtin.Tuple.tupleExact _) (wpAny_newObj_type (wpAny_pure ⟨_, rfl, wpAny_pure h⟩) htake)
  | exact wpAny_bind (m := Builtin.Tuple.tupleExact _) (wpAny_newObj_type (wpAny_bind (wpAny_pure (wpAny_pure ⟨_, rfl, wpAny_pure h⟩))) htake)
  | exact wpAny_bind (wpAny_bind (m := Builtin.Tuple.tupleExact _) (wpAny_newObj_type (wpAny_pure (wpAny_pure ⟨_, rfl, wpAny_pure h⟩)) htake))
  | exact wpAny_bind (wpAny_bind (m := Builtin.Tuple.tupleExact _) (wpAny_newObj_type (wpAny_pure ⟨_, rfl, wpAny_pure h⟩) htake))
end
end HT
namespace L2
open PySem PySem.Spec PyProof.Rows
abbrev TO := St → Hp → (Option Int → Hp → Prop) → Prop
def PO (X : Cx) (e : Option Expr) (t : TO) : Prop :=
 ∀ (pins : List (Addr × Obj)) (s : Shared) (σ : St) (H : Hp) (Q : Option Int → Hp → Prop), Inv X pins σ H s → t σ H Q →
  wpAny (model X.prog X.w) X.A (evalPart e X.env) (fun u s' => ∃ o H', Inv X pins σ H' s' ∧ IsPart u o ∧ Q o H') X.xe s
def tNoPart : TO := fun _ H Q => Q none H
def tPart (t : TE) : TO := fun σ H Q => t σ H fun x H1 => ∃ i, x = .int i ∧ Q (some i) H1
section
variable {X : Cx} {e : Expr} {te : TE} {lo hi : Option Expr} {tl th : TO} {pos p2 : Pos}
theorem zaop : PO X none tNoPart := by
 intro pins s σ H Q I h
 rw [evalPart_none]
 exact wpAny_pure ⟨none, H, I, .none, h⟩
theorem zaoq (h : PE X e te) : PO X (some e) (tPart te) := by
 intro pins s σ H Q I hw
 rw [evalPart_some]
 refine thn (h pins s σ H _ I hw) fun u s1 ⟨x, H1, I1, r1, q1⟩ => ?_
 obtain ⟨i, rfl, q⟩ := q1
 obtain ⟨t, rfl⟩ := r1
 exact ⟨some i, H1, I1, .int i t, q⟩
def SlR (X : Cx) (r : V → Option Int → Option Int → Hp → VK → Prop) : Prop :=
 ∀ (pins : List (Addr × Obj)) (s : Shared) (σ : St) (H : Hp) (x : V) (v vl vu : Value) (lo hi : Option Int) (sl : Addr) (Q : VK), Inv X pins σ H s → RelV x v → s.heap.IsSliceOf sl vl vu .none → IsPart vl lo → IsPart vu hi → r x lo hi H Q →
  ∃ T id, typeLookup (.type T) "__getitem__" = pure (some (.builtin id)) ∧ s.TypeIs v T ∧ wpAny (model X.prog X.w) X.A (getItem v (.ref sl)) (EP X pins σ Q) X.xe s
def tSl (r : V → Option Int → Option Int → Hp → VK → Prop) (te : TE) (tl th : TO) : TE := fun σ H Q => te σ H fun x H1 => tl σ H1 fun l H2 => th σ H2 fun u H3 => r x l u H3 Q
theorem zamc {r : V → Option Int → Option Int → Hp → VK → Prop} (hr : SlR X r) (he : PE X e te) (hl : PO X lo tl) (hu : PO X hi th) : PE X (.Subscript e (.Slice lo hi none p2) pos) (tSl r te tl th) := by
 intro pins s σ H Q I h
 refine Subscript_ (thn (he pins s σ H _ I h) fun v s1 ⟨x, H1, I1, r1, q1⟩ => ?_)
 refine wpAny_Slice (thn (hl pins s1 σ H1 _ I1 q1) fun vl s2 ⟨l, H2, I2, pl, q2⟩ => thn (hu pins s2 σ H2 _ I2 q2) fun vu s3 ⟨u, H3, I3, pu, q3⟩ => ?_)
 rw [evalPart_none]
 refine wpAny_pure ?_
 have I4 : Inv X pins σ H3 { s3 with heap := s3.heap.push { cls := .type "slice", data := .fields #[vl, vu, .none] } } := I3.kept (t' := s3.toks) fun b ob q => Heap.get?_push_of_some _ q
 obtain ⟨T, id, hT, ht, hg⟩ := hr pins { s3 with heap := s3.heap.push { cls := .type "slice", data := .fields #[vl, vu, .none] } } σ H3 x v vl vu l u s3.heap.objs.size Q I4 r1 (Heap.IsSliceOf.new ..) pl pu q3
 show wpAny (model X.prog X.w) X.A (subscriptTail e (.Slice lo hi none p2) v (.ref s3.heap.objs.size)) (EP X pins σ Q) X.xe { s3 with heap := s3.heap.push { cls := .type "slice", data := .fields #[vl, vu, .none] } }
 exact tail_any (ops := [.ref s3.heap.objs.size, v]) ht hT hg (by with_unfolding_all rfl)
def cutV (xs : List V) (lo hi : Option Int) : List V := (xs.drop (HT.sIx xs.length 0 lo)).take (HT.sIx xs.length xs.length hi - HT.sIx xs.length 0 lo)
theorem zadc (xs : List V) (lo hi : Option Int) : (cutV xs lo hi).length ≤ xs.length := by
 unfold cutV
 rw [List.length_take, List.length_drop]
 omega
def rSlT (K : PySem.W.Frag) : V → Option Int → Option Int → Hp → VK → Prop := fun x lo hi H Q => ∃ a xs, x = .ref a ∧ SqT K H a xs ∧
 ¬ (HT.sIx xs.length 0 lo = 0 ∧ HT.sIx xs.length xs.length hi = xs.length) ∧ ∀ p, H p = none → Q (.ref p) (upd H p (.tup (cutV xs lo hi)))
theorem zaqv : SlR X (rSlT X.K) := by
 intro pins s σ H x v vl vu lo hi sl Q I rx hs pl pu h
 obtain ⟨a, xs, rfl, hx, hw, q⟩ := h
 cases rx
 obtain ⟨its, r, ht, hz⟩ := I.tuple hx
 have hlen : its.toArray.size = xs.length := by rw [List.size_toArray]; exact r.length.symm
 refine ⟨"tuple", _, PyProof.Rows.slot_tuple_getitem.lookup, ht.typeIs, ?_⟩
 refine HT.getItem_tuple_cut ht hs pl pu (by rw [hlen]; exact hw) ?_ (by rw [hlen]; exact hz)
 rw [hlen]
 refine ⟨.ref s.heap.objs.size, _, I.laid (t' := s.toks) (o := .tup (cutV xs lo hi)) (fun b ob q => Heap.get?_push_of_some _ q) (Nat.le_refl _) ?_, rfl, q _ (I.hok.fresh (Nat.le_refl _))⟩
 exact ⟨Nat.le_trans (zadc xs lo hi) hz, _, (r.drop (HT.sIx xs.length 0 lo)).take (HT.sIx xs.length xs.length hi - HT.sIx xs.length 0 lo), IsTup.new _ _⟩
def rLtT (K : PySem.W.Frag) : R2 := fun x y H Q => ∃ a b ns ms, x = .ref a ∧ y = .ref b ∧ SqT K H a (ns.map V.int) ∧ SqT K H b (ms.map V.int) ∧ Q (.bl (HT.lexLt ns ms)) H
def rCatT (K : PySem.W.Frag) : R2 := fun x y H Q => ∃ a b xs ys, x = .ref a ∧ y = .ref b ∧ SqT K H a xs ∧ SqT K H b ys ∧ xs ≠ [] ∧ xs.length + ys.length ≤ sizeLine ∧
 (ys = [] → Q (.ref a) H) ∧ (ys ≠ [] → ∀ p, H p = none → Q (.ref p) (upd H p (.tup (xs ++ ys))))
end
def ixN (n : Nat) (i : Int) : Option Nat := if 0 ≤ i then (if i < n then some i.toNat else none) else if -(n : Int) ≤ i then some (i + n).toNat else none
def atI {α : Type} (xs : List α) (i : Int) : Option α := (ixN xs.length i).bind fun j => xs[j]?
theorem zajm {n : Nat} {i : Int} {j : Nat} (h : ixN n i = some j) : seqIndex? i n = some j ∧ j < n ∧ -(n : Int) ≤ i ∧ i < n := by
 unfold ixN at h
 by_cases h0 : 0 ≤ i
 ·rw [if_pos h0] at h
  by_cases h1 : i < n
  ·rw [if_pos h1] at h
   have e : i.toNat = j := Option.some.inj h
   exact ⟨by rw [seqIndex_of h0 h1, e], by omega, by omega, h1⟩
  ·rw [if_neg h1] at h; cases h
 ·rw [if_neg h0] at h
  by_cases h1 : -(n : Int) ≤ i
  ·rw [if_pos h1] at h
   have e : (i + n).toNat = j := Option.some.inj h
   exact ⟨by rw [seqIndex_neg (by omega) h1, e], by omega, h1, by omega⟩
  ·rw [if_neg h1] at h; cases h
theorem zajn {α : Type} {xs : List α} {i : Int} {v : α} (h : atI xs i = some v) : ∃ j, seqIndex? i xs.length = some j ∧ xs[j]? = some v ∧ j < xs.length ∧ -(xs.length : Int) ≤ i ∧ i < xs.length := by
 unfold atI at h
 cases e : ixN xs.length i with
 | none => rw [e] at h; cases h
 | some j =>
  rw [e] at h
  obtain ⟨h1, h2, h3, h4⟩ := zajm e
  exact ⟨j, h1, h, h2, h3, h4⟩
theorem zafa {α : Type} {xs : List α} {j : Nat} {v : α} (h : xs[j]? = some v) : atI xs (j : Int) = some v := by
 have hj : j < xs.length := (List.getElem?_eq_some_iff.mp h).1
 have e : ixN xs.length (j : Int) = some j := by
  unfold ixN
  rw [if_pos (by omega), if_pos (by omega)]; simp
 unfold atI; rw [e]; exact h
def PlainIx (b : Expr) : Prop := ∀ o i, subscripted b false o i = operate [o, i] (getItem o i)
def IxR (X : Cx) (r : R2) : Prop :=
 ∀ (value slice : Expr) (pins : List (Addr × Obj)) (s : Shared) (σ : St) (H : Hp) (x y : V) (v u : Value) (Q : VK), Inv X pins σ H s → RelV x v → RelV y u → r x y H Q →
  subscripted slice false v u = operate [v, u] (getItem v u) → wpAny (model X.prog X.w) X.A (subscriptTail value slice v u) (EP X pins σ Q) X.xe s
def MtR (X : Cx) (id : String) (r : V → List V → Hp → VK → Prop) : Prop :=
 ∀ (pins : List (Addr × Obj)) (s : Shared) (σ : St) (H : Hp) (x : V) (xs : List V) (v : Value) (us : List Value) (Q : VK), Inv X pins σ H s → RelV x v → Vals xs us → r x xs H Q →
  wpAny (model X.prog X.w) X.A (call (.builtin id) (v :: us)) (EP X pins σ Q) X.xe s
section
variable {X : Cx} {a b : Expr} {ta tb : TE} {pos : Pos}
theorem zarn {r : R2} (hr : IxR X r) (ha : PE X a ta) (hb : PE X b tb) (hs : PlainIx b) : PE X (.Subscript a b pos) (tOp r ta tb) := by
 intro pins s σ H Q I h
 exact Subscript_ (binT ha hb I h fun v u s2 x y H2 I2 rx ry q => hr a b pins s2 σ H2 x y v u Q I2 rx ry q (hs _ _))
def rIxL (K : PySem.W.Frag) : R2 := fun x y H Q => ∃ p xs i v, x = .ref p ∧ y = .int i ∧ SqL K H p xs ∧ atI xs i = some v ∧ Q v H
def rIxT (K : PySem.W.Frag) : R2 := fun x y H Q => ∃ p xs i v, x = .ref p ∧ y = .int i ∧ SqT K H p xs ∧ atI xs i = some v ∧ Q v H
def rIxS : R2 := fun x y H Q => ∃ z i c, x = .str z ∧ y = .int i ∧ z.length ≤ sizeLine ∧ atI z.cps.toList i = some c ∧ Q (.str ⟨#[c]⟩) H
theorem zaor : IxR X (rIxL X.K) := by
 intro value slice pins s σ H x y v u Q I rx ry h hs
 obtain ⟨p, xs, i, z, rfl, rfl, hq, he, q⟩ := h
 cases rx
 obtain ⟨t, rfl⟩ := ry
 obtain ⟨its, r, pl, hz⟩ := I.list hq
 obtain ⟨j, h1, h2, h3, h4, h5⟩ := zajn he
 obtain ⟨w, ew, rw'⟩ := r.get h2
 have hl := r.length
 have hn := line63
 have fin : EP X pins σ Q w s := ⟨z, H, I, rw', q⟩
 by_cases h0 : 0 ≤ i
 ·have hj : i.toNat = j := by
   rw [seqIndex_of h0 h5] at h1
   exact Option.some.inj h1
  exact item_listR pl.isList h0 (by omega) (by rw [hj]; simpa using ew) fin hs
 ·have hj : (i + (its.toArray.size : Int)).toNat = j := by
   rw [seqIndex_neg (by omega) h4] at h1
   rw [List.size_toArray, ← hl]
   exact Option.some.inj h1
  exact subscriptTail_builtinR (x := w) pl.isList.typeIs slot_list_getitem.lookup
   (wpAny_getItem_list_neg (Q := fun r s' => r = w ∧ EP X pins σ Q r s') pl.isList (by omega) (by rw [List.size_toArray] <;> omega) (by omega) (by rw [hj]; simpa using ew) ⟨rfl, fin⟩) hs
theorem zaqw : IxR X (rIxT X.K) := by
 intro value slice pins s σ H x y v u Q I rx ry h hs
 obtain ⟨p, xs, i, z, rfl, rfl, hq, he, q⟩ := h
 cases rx
 obtain ⟨t, rfl⟩ := ry
 obtain ⟨its, r, pl, hz⟩ := I.tuple hq
 obtain ⟨j, h1, h2, h3, h4, h5⟩ := zajn he
 obtain ⟨w, ew, rw'⟩ := r.get h2
 have hl := r.length
 have hn := line63
 have fin : EP X pins σ Q w s := ⟨z, H, I, rw', q⟩
 exact subscriptTail_builtinR (x := w) pl.typeIs slot_tuple_getitem.lookup
  (getItem_tuple (j := j) (Q := fun r s' => r = w ∧ EP X pins σ Q r s') pl (by omega) (by omega) (by rw [List.size_toArray, ← hl]; exact h1) (by simpa using ew) ⟨rfl, fin⟩) hs
def rIx (K : PySem.W.Frag) : R2 := fun x y H Q => rIxL K x y H Q ∨ rIxT K x y H Q ∨ rIxS x y H Q
theorem zaiu (its : List Value) (n j : Nat) (u : Value) : Obj.mapSeq (·.setIfInBounds j u) { cls := .type "list", data := .seq its.toArray n } = { cls := .type "list", data := .seq (its.set j u).toArray n } := by
 simp [Obj.mapSeq]
theorem Inv.lst {pins : List (Addr × Obj)} {σ : St} {H : Hp} {s : Shared} {p : Addr} {xs : List V} (I : Inv X pins σ H s) (h : H p = some (.lst xs)) :
  ∃ (its : List Value) (n : Nat), Vals xs its ∧ s.heap.get? p = some { cls := .type "list", data := .seq its.toArray n } ∧ xs.length ≤ sizeLine := by
 obtain ⟨z, its, n, r, e⟩ := I.hok p _ h
 exact ⟨its, n, r, e, z⟩
theorem Inv.lstUpd {pins : List (Addr × Obj)} {σ : St} {H : Hp} {s : Shared} {p : Addr} {xs ys : List V} {its its' : List Value} {n n' : Nat} {f : Obj → Obj} (I : Inv X pins σ H s) (h : H p = some (.lst xs))
  (ho : s.heap.get? p = some { cls := .type "list", data := .seq its.toArray n }) (hf : f { cls := .type "list", data := .seq its.toArray n } = { cls := .type "list", data := .seq its'.toArray n' }) (r : Vals ys its') (hz : ys.length ≤ sizeLine) (t : Nat) :
  Inv X pins σ (upd H p (.lst ys)) { s with heap := s.heap.update p f, toks := t } := by
 have e : (s.heap.update p f).get? p = some { cls := .type "list", data := .seq its'.toArray n' } := by
  rw [Heap.get?_update_self f ho (by rw [hf] <;> rfl), hf]
 refine I.write (x := p) (e := p) (by rw [h]; trivial) (.inl rfl) (fun b u hb q => (Heap.get?_update_other _ _ (Ne.symm hb)).trans q) ⟨_, e⟩ ?_
 exact ⟨hz, its', n', r, e⟩
def rSetL : V → V → V → Hp → (Hp → Prop) → Prop := fun o i v H Q => ∃ p xs k j, o = .ref p ∧ i = .int k ∧ H p = some (.lst xs) ∧ ixN xs.length k = some j ∧ Q (upd H p (.lst (xs.set j v)))
theorem zamd : PSet X rSetL := by
 intro pins s σ H o i v ov iv u Q I ro ri rv h
 obtain ⟨p, xs, k, j, rfl, rfl, hp, hj, q⟩ := h
 cases ro
 obtain ⟨t, rfl⟩ := ri
 obtain ⟨its, n, r, ho, hz⟩ := I.lst hp
 obtain ⟨h1, h2, h3, h4⟩ := zajm hj
 have hl := r.length
 have hn := line63
 have I' : Inv X pins σ (upd H p (.lst (xs.set j v))) { s with heap := s.heap.update p (Obj.mapSeq (·.setIfInBounds j u)) } :=
  I.lstUpd hp ho (zaiu its n j u) (r.set rv j) (by rw [List.length_set]; exact hz) s.toks
 by_cases h0 : 0 ≤ k
 ·have hk : k.toNat = j := by
   rw [seqIndex_of h0 h4] at h1
   exact Option.some.inj h1
  exact PySem.W.ki_setAt ho h0 (by omega) (by rw [List.size_toArray, ← hl]; exact h4) (by rw [hk]; exact ⟨_, I', q⟩)
 ·have hk : (k + (its.toArray.size : Int)).toNat = j := by
   rw [seqIndex_neg (by omega) h3] at h1
   rw [List.size_toArray, ← hl]
   exact Option.some.inj h1
  exact PySem.W.ki_setBack ho (by omega) (by rw [List.size_toArray, ← hl]; exact h3) (by omega) (by rw [hk]; exact ⟨_, I', q⟩)
theorem zagj (lo hi : Option Int) (n : Nat) : (sliceBounds lo hi none n).1 = ((HT.sIx n 0 lo : Nat) : Int) ∧ (sliceBounds lo hi none n).2.1 = ((HT.sIx n n hi : Nat) : Int) ∧ (sliceBounds lo hi none n).2.2 = 1 := by
 refine ⟨?_, ?_, rfl⟩
 ·cases lo with
  | none => simp [sliceBounds, HT.sIx]
  | some i =>
   simp only [sliceBounds, HT.sIx, Option.getD_none, show (1 : Int) > 0 by decide, if_true]
   by_cases h : i < 0
   ·simp only [h, if_true] <;> omega
   ·simp only [h, if_false] <;> omega
 ·cases hi with
  | none => simp [sliceBounds, HT.sIx]
  | some i =>
   simp only [sliceBounds, HT.sIx, Option.getD_none, show (1 : Int) > 0 by decide, if_true]
   by_cases h : i < 0
   ·simp only [h, if_true] <;> omega
   ·simp only [h, if_false] <;> omega
theorem zafb (its : List Value) (lo hi : Option Int) : slicePick its.toArray lo hi none = ((its.drop (HT.sIx its.length 0 lo)).take (HT.sIx its.length its.length hi - HT.sIx its.length 0 lo)).toArray := by
 obtain ⟨h1, h2, h3⟩ := zagj lo hi its.toArray.size
 unfold slicePick
 rw [h1, h2, h3]
 simp only [sliceRange_one, pick_run, List.size_toArray] <;> rfl
def rSlL (K : PySem.W.Frag) : V → Option Int → Option Int → Hp → VK → Prop := fun x lo hi H Q => ∃ a xs, x = .ref a ∧ SqL K H a xs ∧ ∀ p, H p = none → Q (.ref p) (upd H p (.lst (cutV xs lo hi)))
theorem zaos : SlR X (rSlL X.K) := by
 intro pins s σ H x v vl vu lo hi sl Q I rx hs pl pu h
 obtain ⟨a, xs, rfl, hx, q⟩ := h
 cases rx
 obtain ⟨its, r, ht, hz⟩ := I.list hx
 have hlen := r.length
 refine ⟨"list", _, slot_list_getitem.lookup, ht.isList.typeIs, ?_⟩
 refine wpAny_getItem_list_slice ht.isList hs pl pu .none (by simp) ?_ (by rw [List.size_toArray] <;> omega)
 rw [zafb, ← hlen]
 refine ⟨.ref s.heap.objs.size, _, I.laid (t' := s.toks) (o := .lst (cutV xs lo hi)) (fun b ob q => Heap.get?_push_of_some _ q) (Nat.le_refl _) ?_, rfl, q _ (I.hok.fresh (Nat.le_refl _))⟩
 exact ⟨Nat.le_trans (zadc xs lo hi) hz, _, 0, (r.drop (HT.sIx xs.length 0 lo)).take (HT.sIx xs.length xs.length hi - HT.sIx xs.length 0 lo), Heap.get?_push_size _ rfl⟩
def flatV : V → Bool
 | .non => true
 | .bl _ => true
 | .int _ => true
 | .str _ => true
 | _ => false
def eqV : V → V → Bool
 | .non, .non => true
 | .bl a, .bl b => a == b
 | .bl a, .int b => (if a then 1 else 0) == b
 | .int a, .bl b => a == (if b then 1 else 0)
 | .int a, .int b => a == b
 | .str a, .str b => a == b
 | _, _ => false
theorem zaqx {A : Around} {s : Shared} {y x : V} {u v : Value} (ry : RelV y u) (rx : RelV x v) (fy : flatV y = true) (fx : flatV x = true) : SeqAt.EqAt A s u v (eqV y x) := by
 cases y with
 | non =>
  cases ry
  cases x with
  | non => cases rx; exact SeqAt.EqAt.same _
  | bl b => cases rx; exact SeqAt.EqAt.none_bool b
  | int b => obtain ⟨t, rfl⟩ := rx; exact SeqAt.EqAt.none_int b t
  | str b => obtain ⟨t, rfl⟩ := rx; exact SeqAt.EqAt.none_str b t
  | _ => exact absurd (show false = true from fx) Bool.false_ne_true
 | bl a =>
  cases ry
  cases x with
  | non => cases rx; exact SeqAt.EqAt.bool_none a
  | bl b => cases rx; exact SeqAt.EqAt.bool_bool a b
  | int b => obtain ⟨t, rfl⟩ := rx; exact SeqAt.EqAt.bool_int a b t
  | str b => obtain ⟨t, rfl⟩ := rx; exact SeqAt.EqAt.bool_str a b t
  | _ => exact absurd (show false = true from fx) Bool.false_ne_true
 | int a =>
  obtain ⟨t', rfl⟩ := ry
  cases x with
  | non => cases rx; exact SeqAt.EqAt.int_none a t'
  | bl b => cases rx; exact SeqAt.EqAt.int_bool a t' b
  | int b => obtain ⟨t, rfl⟩ := rx; exact SeqAt.EqAt.int_int a t' b t
  | str b => obtain ⟨t, rfl⟩ := rx; exact SeqAt.EqAt.int_str a t' b t
  | _ => exact absurd (show false = true from fx) Bool.false_ne_true
 | str a =>
  obtain ⟨t', rfl⟩ := ry
  cases x with
  | non => cases rx; exact SeqAt.EqAt.str_none a t'
  | bl b => cases rx; exact SeqAt.EqAt.str_bool a t' b
  | int b => obtain ⟨t, rfl⟩ := rx; exact SeqAt.EqAt.str_int a t' b t
  | str b => obtain ⟨t, rfl⟩ := rx; exact SeqAt.EqAt.str_str a t' b t
  | _ => exact absurd (show false = true from fx) Bool.false_ne_true
 | _ => exact absurd (show false = true from fy) Bool.false_ne_true
def eqU (x : V) (u : Value) : Bool := match u with
 | .none => eqV .non x
 | .bool b => eqV (.bl b) x
 | .int i _ => eqV (.int i) x
 | .str z _ => eqV (.str z) x
 | _ => false
theorem zano {x y : V} {u : Value} (r : RelV y u) (f : flatV y = true) : eqU x u = eqV y x := by
 cases y with
 | non => cases r; rfl
 | bl b => cases r; rfl
 | int i => obtain ⟨t, rfl⟩ := r; rfl
 | str z => obtain ⟨t, rfl⟩ := r; rfl
 | _ => exact absurd (show false = true from f) Bool.false_ne_true
theorem zaeb {x : V} : ∀ {xs : List V} {us : List Value}, Vals xs us → xs.all flatV = true → us.any (eqU x) = xs.any fun y => eqV y x
 | _, _, .nil, _ => rfl
 | y :: xs, u :: us, .cons r t, f => by
  rw [List.all_cons, Bool.and_eq_true] at f
  rw [List.any_cons, List.any_cons, zano r f.1, zaeb t f.2]
theorem zadj {A : Around} {s : Shared} {x : V} {v : Value} (rx : RelV x v) (fx : flatV x = true) : ∀ {xs : List V} {us : List Value}, Vals xs us → xs.all flatV = true → ∀ u ∈ us, SeqAt.EqAt A s u v (eqU x u)
 | _, _, .nil, _ => fun u hu => by cases hu
 | y :: xs, u :: us, .cons r t, f => fun u' hu => by
  rw [List.all_cons, Bool.and_eq_true] at f
  rcases List.mem_cons.mp hu with rfl | hu
  ·rw [zano r f.1]; exact zaqx r rx f.1 fx
  ·exact zadj rx fx t f.2 u' hu
def inV (x : V) (xs : List V) : Bool := xs.any fun y => eqV y x
def rIn (K : PySem.W.Frag) (neg : Bool) : R2 := fun x y H Q => ∃ p xs, y = .ref p ∧ (SqL K H p xs ∨ SqT K H p xs) ∧ flatV x = true ∧ xs.all flatV = true ∧ Q (.bl (if neg then !inV x xs else inV x xs)) H
theorem zagk : OpR X (compareOp .In) (rIn X.K false) := by
 intro pins s σ H x y v u Q I rx ry h
 obtain ⟨p, xs, rfl, hq, fx, fs, q⟩ := h
 cases ry
 rcases hq with hq | hq
 ·obtain ⟨its, r, pl, hz⟩ := I.list hq
  refine SeqAt.in_listAt (eqU x) pl.isList (fun w hw => zadj rx fx r fs w (by simpa using hw)) ⟨.bl _, H, I, rfl, ?_⟩
  rw [show its.toArray.any (eqU x) = its.any (eqU x) by simp, zaeb r fs]
  exact q
 ·obtain ⟨its, r, pl, hz⟩ := I.tuple hq
  refine SeqAt.in_tupleAt (eqU x) pl (fun w hw => zadj rx fx r fs w (by simpa using hw)) ⟨.bl _, H, I, rfl, ?_⟩
  rw [show its.toArray.any (eqU x) = its.any (eqU x) by simp, zaeb r fs]
  exact q
theorem zagl : OpR X (compareOp .NotIn) (rIn X.K true) := by
 intro pins s σ H x y v u Q I rx ry h
 obtain ⟨p, xs, rfl, hq, fx, fs, q⟩ := h
 cases ry
 rcases hq with hq | hq
 ·obtain ⟨its, r, pl, hz⟩ := I.list hq
  refine SeqAt.notIn_listAt (eqU x) pl.isList (fun w hw => zadj rx fx r fs w (by simpa using hw)) ⟨.bl _, H, I, rfl, ?_⟩
  rw [show its.toArray.any (eqU x) = its.any (eqU x) by simp, zaeb r fs]
  exact q
 ·obtain ⟨its, r, pl, hz⟩ := I.tuple hq
  refine SeqAt.notIn_tupleAt (eqU x) pl (fun w hw => zadj rx fx r fs w (by simpa using hw)) ⟨.bl _, H, I, rfl, ?_⟩
  rw [show its.toArray.any (eqU x) = its.any (eqU x) by simp, zaeb r fs]
  exact q
theorem zaau : CallR X (.builtin "len") (fun xs H Q => ∃ p ys, xs = [.ref p] ∧ (SqL X.K H p ys ∨ SqT X.K H p ys) ∧ Q (.int ys.length) H) := by
 intro pins s σ H xs us Q I r h
 obtain ⟨p, ys, rfl, hq, q⟩ := h
 obtain ⟨u, rfl, rx⟩ := vals1 r
 cases rx
 have hn := line63
 rcases hq with hq | hq
 ·obtain ⟨its, r', pl, hz⟩ := I.list hq
  have hlen := r'.length
  exact Calls.call_len_list pl.isList (by simp only [List.size_toArray] <;> omega) ⟨.int ys.length, H, I.tok _, ⟨s.toks + 1, by rw [List.size_toArray, hlen]⟩, q⟩
 ·obtain ⟨its, r', pl, hz⟩ := I.tuple hq
  have hlen := r'.length
  exact len_tuple pl (by simp only [List.size_toArray] <;> omega) ⟨.int ys.length, H, I.tok _, ⟨s.toks + 1, by rw [List.size_toArray, hlen]⟩, q⟩
def tyV (K : PySem.W.Frag) (T : String) (x : V) (H : Hp) : Prop := match x with
 | .str _ => T = "str"
 | .int _ => T = "int"
 | .ref p => (T = "list" ∧ ∃ xs, SqL K H p xs) ∨ (T = "tuple" ∧ ∃ o, K.lookup p = some o ∧ o.cls = .type "tuple" ∧ o.dict = none) ∨
   (T = "dict" ∧ ((∃ kvs, H p = some (.dK kvs)) ∨ ∃ kvs, H p = some (.dT kvs))) ∨ (T = "set" ∧ ∃ S n, H p = some (.set S n))
 | _ => False
theorem zanp {pins : List (Addr × Obj)} {σ : St} {H : Hp} {s : Shared} {T : String} {x : V} {v : Value} (I : Inv X pins σ H s) (r : RelV x v) (ty : tyV X.K T x H) :
  s.TypeIs v T ∧ ∀ a, v = .ref a → ∃ ob, s.heap.get? a = some ob ∧ ob.dict = none := by
 cases x with
 | str z =>
  obtain ⟨t, rfl⟩ := r
  cases (show T = "str" from ty)
  exact ⟨typeIs_str s z t, fun _ e => nomatch e⟩
 | int i =>
  obtain ⟨t, rfl⟩ := r
  cases (show T = "int" from ty)
  exact ⟨typeIs_int s i t, fun _ e => nomatch e⟩
 | ref p =>
  cases r
  rcases ty with ⟨rfl, xs, hq⟩ | ⟨rfl, o, hk, hc, hd⟩ | ⟨rfl, hk⟩ | ⟨rfl, S, n, hk⟩
  ·obtain ⟨its, _, pl, _⟩ := I.list hq
   refine ⟨pl.isList.typeIs, fun a e => ?_⟩
   cases e
   obtain ⟨o, n, e, c, hd, _⟩ := pl
   exact ⟨o, e, hd⟩
  ·refine ⟨⟨o, I.kIn p o hk, hc⟩, fun a e => ?_⟩
   cases e
   exact ⟨o, I.kIn _ o hk, hd⟩
  ·have z : ∃ o, s.heap.get? p = some o ∧ o.ExactDict := by
    rcases hk with ⟨kvs, hk⟩ | ⟨kvs, hk⟩
    ·obtain ⟨_, _, _, _, o, _, _, e, ex, _⟩ := I.hok p _ hk
     exact ⟨o, e, ex⟩
    ·obtain ⟨_, _, _, _, o, _, _, e, ex, _⟩ := I.hok p _ hk
     exact ⟨o, e, ex⟩
   obtain ⟨o, e, ex⟩ := z
   refine ⟨⟨o, e, ex.1⟩, fun a e2 => ?_⟩
   cases e2
   exact ⟨o, e, ex.2.1⟩
  ·obtain ⟨o, _, _, _, e, ex, _⟩ := I.hok p _ hk
   refine ⟨⟨o, e, ex.1⟩, fun a e2 => ?_⟩
   cases e2
   exact ⟨o, e, ex.2.1⟩
 | _ => exact False.elim ty
def tBM0 (K : PySem.W.Frag) (T : String) (r : V → List V → Hp → VK → Prop) (to : TE) : TE := fun σ H Q => to σ H fun x H1 => tyV K T x H1 ∧ r x [] H1 Q
def tBM (K : PySem.W.Frag) (T : String) (r : V → List V → Hp → VK → Prop) (to : TE) (t : TA) : TE := fun σ H Q => to σ H fun x H1 => tyV K T x H1 ∧ t σ H1 fun xs H2 => r x xs H2 Q
variable {o e : Expr} {es : List Expr} {to : TE} {t : TA} {name : Str} {apos cpos : Pos} {T id : String} {r : V → List V → Hp → VK → Prop}
theorem zanq (pa : PlainAttrs T) (slot : Slot T name id) (hty : typeOf (.builtin id) = pure (.type "method_descriptor")) (hm : MtR X id r) (ho : PE X o to)
  (hbase : attributeBase o name X.env (eval o X.env) = eval o X.env := by rfl) (hline : (apos.endLine == cpos.line) = true := by rfl) : PE X (.Call (.Attribute o name apos) [] [] cpos) (tBM0 X.K T r to) := by
 intro pins s σ H Q I h
 refine wpAny_Call_method0_late hbase hline (thn (ho pins s σ H _ I h) fun v s1 ⟨x, H1, I1, r1, ty, q1⟩ => ?_)
 obtain ⟨h1, h2⟩ := zanp I1 r1 ty
 exact ⟨T, id, pa, slot, hty, h1, h2, Calls.callWith_builtin rfl (PySem.evalArgs_none (hm pins s1 σ H1 x [] v [] Q I1 r1 .nil q1))⟩
theorem zaro (pa : PlainAttrs T) (slot : Slot T name id) (hty : typeOf (.builtin id) = pure (.type "method_descriptor")) (hm : MtR X id r) (ho : PE X o to) (ha : PA X (e :: es) t)
  (hbase : attributeBase o name X.env (eval o X.env) = eval o X.env := by rfl)
  (hfew : ((backTo cpos (starEach (e :: es) X.env)).all (fun x => !x.1) && (backToKw cpos (keywordEach [] X.env)).all (fun x => x.1.isSome)
   && decide ((e :: es).length + ([] : List Keyword).length + (if ([] : List Keyword).isEmpty then 0 else 1) < 30)) = true := by rfl)
  (hline : (apos.endLine == cpos.line) = true := by rfl) (hs : starEach (e :: es) X.env = (false, eval e X.env) :: starEach es X.env := by rfl) (hplain : (backTo cpos (starEach es X.env)).any (·.1) = false := by rfl) :
  PE X (.Call (.Attribute o name apos) (e :: es) [] cpos) (tBM X.K T r to t) := by
 intro pins s σ H Q I h
 refine wpAny_Call_method_late hbase hfew hline rfl (thn (ho pins s σ H _ I h) fun v s1 ⟨x, H1, I1, r1, ty, q1⟩ => ?_)
 obtain ⟨h1, h2⟩ := zanp I1 r1 ty
 refine ⟨T, id, pa, slot, hty, h1, h2, ?_⟩
 have hA := ha cpos pins s1 σ H1 _ I1 q1
 rw [hs] at hA ⊢
 refine Calls.callWith_builtin (by show (false || (backTo cpos (starEach es X.env)).any (·.1)) = false; rw [hplain] <;> rfl) (Calls.evalArgs_plain ?_)
 exact thn hA fun us s2 ⟨vs, H2, I2, r2, q2⟩ => hm pins s2 σ H2 x vs v us Q I2 r1 r2 q2
end
def MtM (X : Cx) (id : String) (r : V → List V → Hp → VK → Prop) : Prop :=
 ∀ (pins : List (Addr × Obj)) (s : Shared) (σ : St) (H : Hp) (x : V) (xs : List V) (v : Value) (us : List Value) (Q : VK), Inv X pins σ H s → RelV x v → Vals xs us → r x xs H Q →
  wpAny (model X.prog X.w) X.A (call (.builtin id) (v :: us)) (EP X pins σ Q) X.xe s
theorem Vals.one : ∀ {x : V} {us : List Value}, Vals [x] us → ∃ u, us = [u] ∧ RelV x u
 | _, _, .cons r .nil => ⟨_, rfl, r⟩
theorem Vals.zero : ∀ {us : List Value}, Vals [] us → us = []
 | _, .nil => rfl
theorem Vals.reverse {xs : List V} {us : List Value} (h : Vals xs us) : Vals xs.reverse us.reverse := by
 induction h with
 | nil => exact .nil
 | cons r t ih => rw [List.reverse_cons, List.reverse_cons]; exact Vals.append ih (.cons r .nil)
section
variable {X : Cx} {pins : List (Addr × Obj)} {σ : St} {H : Hp} {s : Shared} {l b : Addr} {xs ys zs : List V}
theorem Inv.lset {its its' : List Value} {n : Nat} {f : Array Value → Array Value} {t' : Nat} (I : Inv X pins σ H s) (hH : H l = some (.lst xs))
  (e : s.heap.get? l = some { cls := .type "list", data := .seq its.toArray n }) (hf : f its.toArray = its'.toArray) (hv : Vals ys its') (hz : ys.length ≤ sizeLine) :
  Inv X pins σ (upd H l (.lst ys)) { s with heap := s.heap.update l (Obj.mapSeq f), toks := t' } := by
 have q := PySem.IsL.update e f
 rw [hf] at q
 refine I.write (x := l) (e := l) (by rw [hH]; exact trivial) (.inl rfl) (fun b' u hb hu => (Heap.get?_update_other s.heap (Obj.mapSeq f) (Ne.symm hb)).trans hu) ⟨_, q⟩ ?_
 exact ⟨hz, its', _, hv, q⟩
theorem Inv.lnew {its : List Value} {t' : Nat} (I : Inv X pins σ H s) (hv : Vals ys its) (hz : ys.length ≤ sizeLine) :
  Inv X pins σ (upd H s.heap.objs.size (.lst ys)) { s with heap := s.heap.push { cls := .type "list", data := .seq its.toArray }, toks := t' } :=
 I.laid (fun _ _ q => Heap.get?_push_of_some _ q) (Nat.le_refl _) ⟨hz, its, 0, hv, Heap.get?_push_size _ rfl⟩
theorem Inv.fresh (I : Inv X pins σ H s) : H s.heap.objs.size = none := I.hok.fresh (Nat.le_refl _)
theorem Inv.lstM (I : Inv X pins σ H s) (hH : H l = some (.lst xs)) : xs.length ≤ sizeLine ∧ ∃ (its : List Value) (n : Nat), Vals xs its ∧ xs.length = its.length ∧ s.heap.get? l = some { cls := .type "list", data := .seq its.toArray n } := by
 obtain ⟨z, its, n, r, e⟩ := I.hok l _ hH
 exact ⟨z, its, n, r, r.length, e⟩
theorem notLongL {n : Nat} (h : n ≤ sizeLine) : Builtin.List.listTooLong n = false := by
 unfold Builtin.List.listTooLong
 exact decide_eq_false (by omega)
end
section
variable {X : Cx}
def rAppend : V → List V → Hp → VK → Prop := fun x vs H Q => ∃ l xs y, x = .ref l ∧ vs = [y] ∧ H l = some (.lst xs) ∧ xs.length < sizeLine ∧ Q .non (upd H l (.lst (xs ++ [y])))
theorem zagm : MtM X "list.append" rAppend := by
 intro pins s σ H x vs v us Q I rx rv h
 obtain ⟨l, xs, y, rfl, rfl, hH, hz, q⟩ := h
 cases rx
 obtain ⟨u, rfl, ru⟩ := rv.one
 obtain ⟨z, its, n, r, hl, e⟩ := I.lstM hH
 refine call_meets F.slot_list_append ⟨_, e, rfl⟩ F.entry_list_append (F.args_list_append_2 _ _) (PySem.list_append l its.toArray n u (by rw [List.size_toArray]; omega)) ⟨e, ?_⟩
 refine ⟨.non, _, I.lset (its' := its ++ [u]) hH e (by simp) (r.append (.cons ru .nil)) ?_, rfl, q⟩
 rw [List.length_append, List.length_singleton]
 omega
def rExtend : V → List V → Hp → VK → Prop := fun x vs H Q => ∃ l b xs zs, x = .ref l ∧ vs = [.ref b] ∧ H l = some (.lst xs) ∧ H b = some (.lst zs) ∧ xs.length + zs.length ≤ sizeLine ∧ Q .non (upd H l (.lst (xs ++ zs)))
theorem zadk : MtM X "list.extend" rExtend := by
 intro pins s σ H x vs v us Q I rx rv h
 obtain ⟨l, b, xs, zs, rfl, rfl, hH, hB, hz, q⟩ := h
 cases rx
 obtain ⟨u, rfl, ru⟩ := rv.one
 cases ru
 obtain ⟨z, its, n, r, hl, e⟩ := I.lstM hH
 obtain ⟨z2, its2, n2, r2, hl2, e2⟩ := I.lstM hB
 have hsz : its.toArray.size + its2.toArray.size ≤ sizeLine := by rw [List.size_toArray, List.size_toArray]; omega
 have hlong : ¬ (!its.toArray.isEmpty && Builtin.List.listTooLong (its.toArray.size + its2.toArray.size)) = true := by
  rw [notLongL hsz, Bool.and_false]
  exact Bool.false_ne_true
 refine call_meets F.slot_list_extend ⟨_, e, rfl⟩ F.entry_list_extend (F.args_list_extend_2 _ _)
  (AutoSeq1.list_extend_list_list_0 l its.toArray n b its2.toArray n2 hlong (by rw [List.size_toArray]; omega) (by omega)) ⟨e, e2, ?_⟩
 refine ⟨.non, _, I.lset (its' := its ++ its2) hH e (by simp) (r.append r2) ?_, rfl, q⟩
 rw [List.length_append]
 omega
def rPop : V → List V → Hp → VK → Prop := fun x vs H Q => ∃ l xs y, x = .ref l ∧ vs = [] ∧ H l = some (.lst xs) ∧ xs[xs.length - 1]? = some y ∧ Q y (upd H l (.lst xs.dropLast))
def rPopAt : V → List V → Hp → VK → Prop := fun x vs H Q => ∃ l xs i k y, x = .ref l ∧ vs = [.int i] ∧ H l = some (.lst xs) ∧ -(2 ^ 63) ≤ i ∧ i < 2 ^ 63 ∧ seqIndex? i xs.length = some k ∧ xs[k]? = some y ∧ Q y (upd H l (.lst (xs.eraseIdx k)))
def rReverse : V → List V → Hp → VK → Prop := fun x vs H Q => ∃ l xs, x = .ref l ∧ vs = [] ∧ H l = some (.lst xs) ∧ Q .non (upd H l (.lst xs.reverse))
theorem zaiv : MtM X "list.reverse" rReverse := by
 intro pins s σ H x vs v us Q I rx rv h
 obtain ⟨l, xs, rfl, rfl, hH, q⟩ := h
 cases rx
 have hus := rv.zero
 subst hus
 obtain ⟨z, its, n, r, hl, e⟩ := I.lstM hH
 refine call_meets F.slot_list_reverse ⟨_, e, rfl⟩ F.entry_list_reverse (F.args_list_reverse_1 _) (AutoSeq1.list_reverse_list_0 l its.toArray n (by rw [List.size_toArray]; omega)) ⟨e, ?_⟩
 refine ⟨.non, _, I.lset (its' := its.reverse) hH e (by simp) r.reverse ?_, rfl, q⟩
 rw [List.length_reverse]
 omega
def rClear : V → List V → Hp → VK → Prop := fun x vs H Q => ∃ l xs, x = .ref l ∧ vs = [] ∧ H l = some (.lst xs) ∧ Q .non (upd H l (.lst []))
theorem zame : MtM X "list.clear" rClear := by
 intro pins s σ H x vs v us Q I rx rv h
 obtain ⟨l, xs, rfl, rfl, hH, q⟩ := h
 cases rx
 have hus := rv.zero
 subst hus
 obtain ⟨z, its, n, r, hl, e⟩ := I.lstM hH
 refine call_meets F.slot_list_clear ⟨_, e, rfl⟩ F.entry_list_clear (F.args_list_clear_1 _) (AutoSeq1.list_clear_list_0 l its.toArray n (by rw [List.size_toArray]; omega)) ⟨e, ?_⟩
 exact ⟨.non, _, I.lset (its' := []) (ys := []) hH e rfl .nil (Nat.zero_le _), rfl, q⟩
def rCat : R2 := fun x y H Q => ∃ l b xs zs, x = .ref l ∧ y = .ref b ∧ H l = some (.lst xs) ∧ H b = some (.lst zs) ∧ xs.length + zs.length ≤ sizeLine ∧ ∀ p, H p = none → Q (.ref p) (upd H p (.lst (xs ++ zs)))
theorem zac5 : OpR X (binaryOp .Add) rCat := by
 intro pins s σ H x y v u Q I rx ry h
 obtain ⟨l, b, xs, zs, rfl, rfl, hH, hB, hz, q⟩ := h
 cases rx
 cases ry
 obtain ⟨z, its, n, r, hl, e⟩ := I.lstM hH
 obtain ⟨z2, its2, n2, r2, hl2, e2⟩ := I.lstM hB
 refine PySem.P.add_list e e2 ?_ (by rw [List.size_toArray, List.size_toArray]; omega)
 have ea : its.toArray ++ its2.toArray = (its ++ its2).toArray := by simp
 rw [ea]
 exact ⟨.ref _, _, I.lnew (t' := s.toks) (r.append r2) (by rw [List.length_append]; omega), rfl, q _ I.fresh⟩
def rRep : R2 := fun x y H Q => ∃ l k xs, x = .ref l ∧ y = .int k ∧ H l = some (.lst xs) ∧ -(2 ^ 63) ≤ k ∧ k < 2 ^ 63 ∧ xs.length * k.toNat ≤ sizeLine ∧
 ∀ p, H p = none → Q (.ref p) (upd H p (.lst (List.replicate k.toNat xs).flatten))
end
section
variable {prog : Program} {w : World} {A : Around} {E : Value → Shared → Prop} {s : Shared}
end
section
variable {X : Cx}
end
end L2
namespace Att
open PySem PySem.W PySem.Calls PyProof.Rows
theorem zaec {P : Params} {h : Heap} : ∀ (ns : List Int) (vs : List Value), WellAll P h vs (ns.map WData.int) → IntsAre vs ns := by
 intro ns
 induction ns with
 | nil =>
  intro vs w
  rw [List.map_nil] at w
  cases w
  exact .nil
 | cons n ns ih =>
  intro vs w
  rw [List.map_cons] at w
  cases w with
  | cons a b =>
   cases a
   exact .cons _ _ (ih _ b)
theorem zajo {l : OpenLaw} {n : Nat} (hn : l.most = some n) {P : Params} {h : Heap} {args : List WData} {vals : List Value}
  (hpre : l.row.toRowW.claim.pre args = true) (hwl : WellAll P h vals args) :
  ∃ a vs ns, vals = [Value.ref a] ∧ args = [WData.list (ns.map WData.int)] ∧ h.get? a = some { cls := .type "list", data := .seq vs.toArray } ∧ IntsAre vs ns ∧ ns.length ≤ n := by
 have hsh : WShape.hasAll [] args [.list .int] = true := (pre_splitW hpre).1
 have hc : l.pre.holds [] { args := args } = true := (pre_splitW hpre).2
 obtain ⟨d, r, rfl, h1, h2⟩ := hasAllW_cons hsh
 obtain rfl := hasAllW_nil h2
 obtain ⟨xs, rfl, h3⟩ := hasW_list h1
 obtain ⟨ns, rfl⟩ := items_int h3
 have hlen : ns.length ≤ n := by
  unfold OpenLaw.pre at hc
  have h4 : (WTm.not (.lt (.lit (.int (n : Int))) (.len (.arg 0)))).holds [] { args := [.list (ns.map .int)] } = true := by
   have h4 := (holds_andW hc).1
   rw [hn] at h4
   exact h4
  have h5 := condW_of h4 (w_not (w_lt w_lit (w_len_list (w_arg rfl))))
  rw [List.length_map] at h5
  refine Nat.le_of_not_lt fun q => ?_
  have q' : (n : Int) < ((ns.length : Nat) : Int) := by omega
  first
   | (rw [decide_eq_true q'] at h5; exact absurd h5 (by decide))
   | (simp at h5; omega)
 cases hwl with
 | cons w1 w2 =>
  cases w2
  cases w1 with
  | list ho hall => exact ⟨_, _, ns, rfl, rfl, ho, zaec ns _ hall, hlen⟩
theorem zajp (l : OpenLaw) (args : List WData) : l.row.toRowW.claim.post args (.bool true) args = true :=
 postW_of (r := l.row.toRowW) (X := (true == true))
  (show WShape.has [] (.bool true) .bool = true by first | rfl | decide | simp [WShape.has, WShape.arms, WShape.armsAll])
  (show (WTm.eq .res (.lit (.bool true))).value [] { args := args, res := some (.bool true), after := args } = some (.bool (true == true)) from w_eq_bool (w_res rfl) w_lit) rfl
theorem attach_call {l : OpenLaw} {n : Nat} {q : Program} {loose : List Str} {XP : (Str → Option Value) → Heap → Prop} {YP : World → Heap → Prop} {d : DefRec}
  (hn : l.most = some n) (hdf : d.params.defaults = [])
  (call : ∀ (w : World) (s₀ s₁ : Shared) (mg mb : Str → Option Value) (fa : Addr) (o : Obj) (pm cd doc : Value) (a : Addr) (vs : List Value) (ns : List Int),
   Ground q loose [] XP w s₀ mg mb s₁.heap → YP w s₁.heap →
   s₁.heap.get? fa = some o → o.data = .func (docDef d.name d.params d.body d.scope pm cd doc) → s₁.heap.CodeRec cd d.name → mg d.name = some (.ref fa) →
   s₁.heap.get? a = some { cls := .type "list", data := .seq vs.toArray } → IntsAre vs ns → ns.length ≤ n → s₁.gens = #[] →
   codeAny (model l.prog w) callerA (.call (.ref fa) ⟨[.ref a], []⟩) (fun r s' => r = .ok (.ret (.bool true)) ∧ OldK s₁.heap s'.heap ∧ s'.os = s₁.os ∧ AllBare s'.gens) s₁) :
  WalkO q loose XP YP l.row.toRowW d [] (fun f vs => PySem.call f vs) := by
 intro w s₀ s₁ mg mb G Y fa o pm cd doc dV kV ho hd hcd hD hmg hg args vals as hpre hlay hrd hwl hlo
 obtain rfl : dV = .none := Dflts.none hD hdf
 obtain rfl : kV = .none := Dflts.noKw hD
 obtain ⟨a, vs, ns, rfl, rfl, hobj, hints, hlen⟩ := zajo hn hpre hwl
 refine enter_call (codeAny_mono (call w s₀ s₁ mg mb fa o pm cd doc a vs ns G Y ho (fd_plain hd) hcd hmg hobj hints hlen hg) fun r s' hq => ?_)
 obtain ⟨rfl, h2, h3, h4⟩ := hq
 exact ⟨.inl ⟨.bool true, .bool true, [], rfl, fun _ => rfl, .bool true, zajp l _, fun _ => ⟨List.Pairwise.nil, fun _ hm => (nomatch hm)⟩⟩, h2, h3, h4⟩
section
variable {prog : Program} {w : World} {A : Around} {E : Value → Shared → Prop} {s : Shared} {K : Frag}
def noObjs (h : Heap) : Heap := { h with objs := #[] }
def ledger (h : Heap) (L d : Addr) : List (Addr × Obj) := (List.range h.objs.size).filterMap fun a => if a = L ∨ a = d then none else (h.get? a).map fun o => (a, o)
end
end Att
namespace L2
open PySem PySem.Spec PyProof.Rows
theorem zagn : ∀ {vs : List Value} {ns : List Int}, IntsAre vs ns → Vals (ns.map V.int) vs
 | _, _, .nil => .nil
 | _, _, .cons n t h => .cons ⟨t, rfl⟩ (zagn h)
def Only (H : Hp) : Prop := ∀ b, H b = none ∨ ∃ o xs, H b = some (.frz o (.lst xs))
theorem zamf {P : Program} {w : World} {K : PySem.W.Frag} {mg mb : Str → Option Value} {CX : CXT} {k : Nat} {fa a : Addr} {fd : FuncData} {x : Str} {sp : Sp} {s₁ : Shared} {vs : List Value} {ns : List Int}
  (KX : K.In s₁.heap) (hns : s₁.heap.Ns mainGlobals mg) (hb : s₁.heap.Ns builtinsNs mb) (hbb : ∀ x : Str, x ≠ "__name__" → mb x = bootBuiltins x) (hlim : s₁.heap.NoLimit) (hg : s₁.gens = #[])
  (ha : s₁.heap.get? a = some { cls := .type "list", data := .seq vs.toArray }) (hi : IntsAre vs ns) (hl : ns.length ≤ sizeLine) (hr : Room k callerA)
  (F : ∀ base : Heap, K.In base → base.Ns mainGlobals mg → FnOk P w K mg base CX k fa fd [x] sp) (hbind : ∀ (s : Shared) (u : Value), BindsTo s fd ⟨[u], []⟩ [(x, u)])
  (hsp : ∀ H : Hp, Only H → SqL K H a (ns.map V.int) → sp [.ref a] H (fun v _ => v = .bl true) fun _ _ _ => False)
  (hCX : ∀ H e s', CX [] H s₁ (fun _ _ _ => False) e s' → False) :
  codeAny (model P w) callerA (.call (.ref fa) ⟨[.ref a], []⟩) (fun r s' => r = .ok (.ret (.bool true)) ∧ OldK s₁.heap s'.heap ∧ s'.os = s₁.os ∧ AllBare s'.gens) s₁ := by
 have rv := zagn hi
 have lenV := hi.length
 have core : ∀ H : Hp, Only H → SqL K H a (ns.map V.int) → HOk P w H s₁.heap → (∀ b, H b ≠ none → b = a) → (H a ≠ none → K.lookup a = none) →
   codeAny (model P w) callerA (.call (.ref fa) ⟨[.ref a], []⟩) (fun r s' => r = .ok (.ret (.bool true)) ∧ OldK s₁.heap s'.heap ∧ s'.os = s₁.os ∧ AllBare s'.gens) s₁ := by
  intro H hO hS hok hA hK
  have base_of : ∀ {b : Addr} {o : Obj}, s₁.heap.get? b = some o → H b = none → (hidT s₁.heap H).get? b = some o := fun e n => zal3 e n
  have noA : ∀ {b : Addr} {o : Obj} {es : Array DictEntry} {ep : Nat}, s₁.heap.get? b = some o → o.data = .dict es ep → H b = none := fun {b o es ep} e d => by
   cases q : H b with
   | none => rfl
   | some u =>
    have e' : b = a := hA b (by rw [q]; simp)
    subst e'
    rw [ha] at e; cases e
    have d' : Data.seq vs.toArray _ = Data.dict es ep := d
    cases d'
  have nsK : ∀ {b : Addr} {m : Str → Option Value}, s₁.heap.Ns b m → (hidT s₁.heap H).Ns b m := fun {b m} ⟨o, es, ep, e, d, r⟩ => ⟨o, es, ep, base_of e (noA e d), d, r⟩
  have hKb : K.In (hidT s₁.heap H) := fun b o e => base_of (KX b o e) (by
   cases q : H b with
   | none => rfl
   | some u =>
    have e' : b = a := hA b (by rw [q]; simp)
    subst e'
    rw [hK (by rw [q]; simp)] at e; cases e)
  have hM : Mod K mg (hidT s₁.heap H) := ⟨hKb, nsK hns, ⟨mb, nsK hb, hbb⟩, let ⟨mc, h1, h2⟩ := hlim; ⟨mc, nsK h1, h2⟩⟩
  have e0 : Env0 P w K mg (hidT s₁.heap H) callerA [] s₁ H := ⟨rfl, hM, fun b o e => zan4 e, Nat.le_of_eq (zai7 _ _), trivial, fun b hb => absurd (show b ∈ ([] : List Addr) from hb) (by simp), hok, .of_eq hg⟩
  refine codeAny_mono ((F _ hKb (nsK hns)).run callerA [] s₁ H ⟨[.ref a], []⟩ [.ref a] [.ref a] _ _ hr e0 (hbind s₁ (.ref a)) (.cons rfl .nil) (hsp H hO hS)) fun r s' h => ?_
  cases r with
  | error e => exact (hCX H e s' h).elim
  | ok fl =>
   cases fl with
   | next => exact False.elim h
   | brk => exact False.elim h
   | cont => exact False.elim h
   | ret u =>
    obtain ⟨v, H', os, bare, un, hok', r', q⟩ := h
    have q' : v = .bl true := q
    subst q'
    obtain rfl : u = Value.bool true := r'
    refine ⟨rfl, OldK.of_keep fun b o e => ?_, os, bare⟩
    cases q : H b with
    | none => exact un.keep b o e q (by intro z; exact absurd (show b ∈ ([] : List Addr) from z) (by simp)) (by simp)
    | some u =>
     rcases hO b with z | ⟨ob, xs, z⟩
     ·rw [q] at z; cases z
     ·have z2 := un.frzs b ob _ z
      obtain ⟨e1, _⟩ := hok b _ z
      obtain ⟨e2, _⟩ := hok' b _ z2
      rw [e] at e1; cases e1
      exact e2
 cases hk : K.lookup a with
 | some o =>
  have e := KX a o hk
  rw [ha] at e
  cases e
  refine core (fun _ => none) (fun _ => .inl rfl) (.inr ⟨_, vs.toArray, _, hk, rfl, rfl, rfl, by rw [List.size_toArray, lenV]; exact hl, by simpa using rv⟩) (fun b u z => by have z' : (none : Option HO) = some u := z; cases z') (fun b z => absurd rfl z) fun z => absurd rfl z
 | none =>
  refine core (fun b => if b = a then some (.frz { cls := .type "list", data := .seq vs.toArray } (.lst (ns.map V.int))) else none) (fun b => ?_) (.inl (.inr ⟨{ cls := .type "list", data := .seq vs.toArray }, if_pos rfl⟩)) (fun b u z => ?_) (fun b z => ?_) fun _ => hk
  ·by_cases hb : b = a
   ·exact .inr ⟨_, _, if_pos hb⟩
   ·exact .inl (if_neg hb)
  ·by_cases hb : b = a
   ·have z' := (if_pos hb).symm.trans z
    cases z'
    subst hb
    exact ⟨ha, by rw [List.length_map]; exact hl, vs, _, rv, ha⟩
   ·have z' := (if_neg hb).symm.trans z
    cases z'
  ·by_cases hb : b = a
   ·exact hb
   ·exact absurd (if_neg hb) z
abbrev KOf {K : PySem.W.Frag} {h : Heap} (_ : K.In h) : PySem.W.Frag := K
theorem zaot {l : PySem.W.OpenLaw} {n k : Nat} {q : Program} {loose : List Str} {XP : (Str → Option Value) → Heap → Prop} {YP : World → Heap → Prop} {d : DefRec} {K : Params → PySem.W.Frag} {CX : World → CXT} {sp : World → Sp} {x : Str}
  (hn : l.most = some n) (hn2 : n ≤ sizeLine) (hdf : d.params.defaults = []) (hr : Room k callerA)
  (hY : ∀ (w : World) (h : Heap), YP w h → (K w.params).In h)
  (F : ∀ (w : World) (mg : Str → Option Value) (fa : Addr) (h : Heap), (K w.params).In h → h.Ns mainGlobals mg → mg d.name = some (.ref fa) →
   ∃ fd : FuncData, (∀ (s : Shared) (u : Value), BindsTo s fd ⟨[u], []⟩ [(x, u)]) ∧
    ∀ base : Heap, (K w.params).In base → base.Ns mainGlobals mg → FnOk l.prog w (K w.params) mg base (CX w) k fa fd [x] (sp w))
  (hsp : ∀ (w : World) (H : Hp) (a : Addr) (ns : List Int), ns.length ≤ n → Only H → SqL (K w.params) H a (ns.map V.int) → sp w [.ref a] H (fun v _ => v = .bl true) fun _ _ _ => False)
  (hCX : ∀ (w : World) (H : Hp) (s : Shared) (e : Value) (s' : Shared), CX w [] H s (fun _ _ _ => False) e s' → False) :
  PySem.W.WalkO q loose XP YP l.row.toRowW d [] (fun f vs => PySem.call f vs) := by
 refine Att.attach_call hn hdf fun w s₀ s₁ mg mb fa o pm cd doc a vs ns G Y ho hd hcd hmg hobj hints hlen hg => ?_
 have KX := hY w _ Y
 obtain ⟨fd, hb, hF⟩ := F w mg fa _ KX G.T.g hmg
 exact zamf KX G.T.g G.T.b G.T.builtins G.T.nolimit hg hobj hints (Nat.le_trans hlen hn2) hr hF hb (fun H hO hS => hsp w H a ns hlen hO hS) fun H e s' => hCX w H s₁ e s'
theorem zamg {l : PySem.W.OpenLaw} {n k : Nat} {q : Program} {loose : List Str} {XP : (Str → Option Value) → Heap → Prop} {YP : World → Heap → Prop} {d : DefRec} {K : Params → PySem.W.Frag} {CX : CXT} {sp : PySem.W.Frag → Sp} {x : Str}
  (hn : l.most = some n) (hn2 : n ≤ sizeLine) (hdf : d.params.defaults = []) (hr : Room k callerA)
  (hY : ∀ (w : World) (h : Heap), YP w h → (K w.params).In h)
  (F : ∀ (w : World) (mg : Str → Option Value) (fa : Addr) (h : Heap), (K w.params).In h → h.Ns mainGlobals mg → mg d.name = some (.ref fa) →
   ∃ fd : FuncData, (∀ (s : Shared) (u : Value), BindsTo s fd ⟨[u], []⟩ [(x, u)]) ∧
    ∀ base : Heap, (K w.params).In base → base.Ns mainGlobals mg → FnOk l.prog w (K w.params) mg base CX k fa fd [x] (sp (K w.params)))
  (hsp : ∀ (K : PySem.W.Frag) (H : Hp) (a : Addr) (ns : List Int), ns.length ≤ n → Only H → SqL K H a (ns.map V.int) → sp K [.ref a] H (fun v _ => v = .bl true) fun _ _ _ => False)
  (hCX : ∀ (H : Hp) (s : Shared) (e : Value) (s' : Shared), CX [] H s (fun _ _ _ => False) e s' → False) :
  PySem.W.WalkO q loose XP YP l.row.toRowW d [] (fun f vs => PySem.call f vs) :=
 zaot (K := K) (CX := fun _ => CX) (sp := fun w => sp (K w.params)) hn hn2 hdf hr hY F (fun w H a ns h1 h2 h3 => hsp (K w.params) H a ns h1 h2 h3) fun _ H s e s' => hCX H s e s'
def inClass (s : Stmt) (j : Nat) : Stmt := match s with
 | .ClassDef _ _ _ body _ _ _ _ _ _ _ => body.getD j (.Pass ⟨0, 0, 0, 0⟩)
 | _ => .Pass ⟨0, 0, 0, 0⟩
def defArgs (s : Stmt) : Arguments := match s with
 | .FunctionDef _ a _ _ _ _ _ _ _ _ => a
 | _ => { posonlyargs := [], args := [], vararg := none, kwonlyargs := [], kw_defaults := [], kwarg := none, defaults := [] }
def defBody (s : Stmt) : List Stmt := match s with
 | .FunctionDef _ _ b _ _ _ _ _ _ _ => b
 | _ => []
def defScope (s : Stmt) : Scope := match s with
 | .FunctionDef _ _ _ _ _ _ sc _ _ _ => sc
 | _ => { kind := .function, names := [], isGenerator := false, isCoroutine := false }
abbrev CX0 : CXT := fun _ _ _ _ _ _ => False
abbrev E0 : XK := fun _ _ _ => False
theorem pass0 {X : Cx} : Passes CX0 X E0 := fun _ _ _ _ _ _ _ h => h.elim
structure Fun (K : PySem.W.Frag) (x qual : Str) (st : Stmt) (f : Addr) (fd : FuncData) : Prop where
 ex : ∃ (oc : Value) (od : Option Addr) (kV doc pm : Value) (an : Option Addr) (cdv ct : Value) (osl : Array (Option Value)),
  fd = PySem.W.fnOf x qual (defArgs st) (defBody st) (defScope st) .none kV doc pm an cdv ct ∧ K.lookup f = some ⟨oc, od, .func fd, osl⟩ ∧ PySem.W.codeIn K cdv qual = true
 kp : PySem.W.keepIn K (.ref f) = true
section
variable {P : Program} {w : World} {K : PySem.W.Frag} {mg : Str → Option Value} {base : Heap}
theorem Fun.ok {x qual : Str} {st : Stmt} {f : Addr} {fd : FuncData} {N ps : List Str} {k : Nat} {sp : Sp} (F : Fun K x qual st f fd) (S : FnScope N ps (defScope st)) (len : ∀ vs H Q E, sp vs H Q E → vs.length = ps.length)
  (hbody : ∀ (cdv : Value) (A : Around) (outer : List Env) (s : Shared) (H : Hp) (vs : List V) (Q : VK) (E : XK), Room k (A.deeper (envOfC qual (defScope st) s.heap.objs.size f cdv)) → sp vs H Q E →
   ∃ t, PSs (cxOf CX0 P w K mg base N qual (defScope st) f cdv A outer s H E).nox (defBody st) t ∧ t { nx := fun _ H' => Q .non H', rt := Q } (start N vs) H) : FnOk P w K mg base CX0 (k + 1) f fd ps sp := by
 obtain ⟨oc, od, kV, doc, pm, an, cdv, ct, osl, rfl, lk, hcd⟩ := F.ex
 refine zaqt lk hcd S len fun A outer s H vs Q E hr hsp => ?_
 obtain ⟨t, h, q⟩ := hbody cdv A outer s H vs Q E hr hsp
 exact ⟨t, h.nox, q⟩
theorem Fun.binds {x qual : Str} {st : Stmt} {f : Addr} {fd : FuncData} {ps : List Str} (F : Fun K x qual st f fd)
  (h : ∀ (kV doc pm : Value) (an : Option Addr) (cdv ct : Value) (us : List Value), us.length = ps.length → bindArgs (PySem.W.fnOf x qual (defArgs st) (defBody st) (defScope st) .none kV doc pm an cdv ct) ⟨us, []⟩ = pure (ps.zip us)) : Binds K fd ps [] := by
 obtain ⟨oc, od, kV, doc, pm, an, cdv, ct, osl, rfl, lk, hcd⟩ := F.ex
 exact .all (h kV doc pm an cdv ct)
theorem zabr {x qual : Str} {st : Stmt} {f : Addr} {oc : Value} {od an : Option Addr} {osl : Array (Option Value)} {kV doc pm cdv ct : Value} (l : K.lookup f = some ⟨oc, od, .func (PySem.W.fnOf x qual (defArgs st) (defBody st) (defScope st) .none kV doc pm an cdv ct), osl⟩)
  (c : PySem.W.codeIn K cdv qual = true) (k : PySem.W.keepIn K (.ref f) = true) : Fun K x qual st f (PySem.W.fnOf x qual (defArgs st) (defBody st) (defScope st) .none kV doc pm an cdv ct) := ⟨⟨oc, od, kV, doc, pm, an, cdv, ct, osl, rfl, l, c⟩, k⟩
end
theorem zarp {A : Around} {k : Nat} (hr : Room k A) : A.units + 1 < cLine := Nat.lt_of_le_of_lt (Nat.add_le_add_left (by decide : 1 ≤ 64) _) hr.units
section
variable {X : Cx}
end
theorem iteF {A B : Prop} (h : B) : if false = true then A else B := by
 rw [if_neg Bool.false_ne_true]
 exact h
theorem iteT {A B : Prop} (h : A) : if true = true then A else B := by
 rw [if_pos rfl]
 exact h
theorem ite2 {c A B : Prop} [Decidable c] (h1 : c → A) (h2 : ¬ c → B) : if c then A else B := by
 by_cases h : c
 ·rw [if_pos h]
  exact h1 h
 ·rw [if_neg h]
  exact h2 h
def Same (H H' : Hp) : Prop := ∀ b o, H b = some o → H' b = some o
end L2

namespace L2
open PySem PySem.Spec PyProof.Rows
section
variable {κ : Type} [DecidableEq κ]
def valV (kvs : List (κ × V)) (k : κ) : Option V := (kvs.find? fun kv => decide (kv.1 = k)).map (·.2)
def putK (kvs : List (κ × V)) (k : κ) (v : V) : List (κ × V) :=
 if (kvs.any fun kv => decide (kv.1 = k)) = true then kvs.map (fun kv => if kv.1 = k then (kv.1, v) else kv) else kvs ++ [(k, v)]
def dropK (kvs : List (κ × V)) (k : κ) : List (κ × V) := kvs.filter fun kv => decide (kv.1 ≠ k)
theorem zamh {k : κ} : valV ([] : List (κ × V)) k = none := rfl
theorem zacb {p : κ × V} {r : List (κ × V)} {k : κ} (e : p.1 = k) : valV (p :: r) k = some p.2 := by simp [valV, List.find?_cons, e]
theorem zacc {p : κ × V} {r : List (κ × V)} {k : κ} (e : ¬ p.1 = k) : valV (p :: r) k = valV r k := by simp [valV, List.find?_cons, e]
theorem zad6 (k : κ) : ∀ kvs : List (κ × V), (kvs.any fun kv => decide (kv.1 = k)) = (valV kvs k).isSome
 | [] => rfl
 | p :: r => by
  rw [List.any_cons]
  by_cases e : p.1 = k
  ·simp only [zacb e, decide_eq_true e, Bool.true_or, Option.isSome_some]
  ·rw [zacc e, decide_eq_false e, Bool.false_or]; exact zad6 k r
theorem zah4 (k j : κ) (y : V) : ∀ kvs : List (κ × V), valV (kvs.map fun kv => if kv.1 = k then (kv.1, y) else kv) j = (valV kvs j).map fun x => if j = k then y else x
 | [] => rfl
 | p :: r => by
  have ih := zah4 k j y r
  rw [List.map_cons]
  by_cases h : p.1 = k
  ·rw [if_pos h]
   by_cases e : p.1 = j
   ·rw [zacb (p := (p.1, y)) e, zacb e, Option.map_some, if_pos (e.symm.trans h)]
   ·rw [zacc (p := (p.1, y)) e, zacc e, ih]
  ·rw [if_neg h]
   by_cases e : p.1 = j
   ·rw [zacb (p := p) e, zacb e, Option.map_some, if_neg (fun z => h (e.trans z))]
   ·rw [zacc (p := p) e, zacc e, ih]
theorem zago (k j : κ) (y : V) : ∀ kvs : List (κ × V), valV kvs k = none → valV (kvs ++ [(k, y)]) j = if j = k then some y else valV kvs j
 | [], _ => by
  by_cases e : k = j
  ·rw [if_pos e.symm]; exact zacb (p := (k, y)) e
  ·rw [if_neg (fun z => e z.symm)]; exact zacc (p := (k, y)) e
 | p :: r, hn => by
  rw [List.cons_append]
  have hk : ¬ p.1 = k := fun z => by rw [zacb z] at hn; cases hn
  rw [zacc hk] at hn
  have ih := zago k j y r hn
  by_cases e : p.1 = j
  ·rw [zacb e, zacb e, if_neg (fun z => hk (e.trans z))]
  ·rw [zacc e, zacc e, ih]
theorem zami (kvs : List (κ × V)) (k j : κ) (y : V) : valV (putK kvs k y) j = if j = k then some y else valV kvs j := by
 unfold putK
 by_cases a : (kvs.any fun kv => decide (kv.1 = k)) = true
 ·rw [if_pos a, zah4]
  rw [zad6] at a
  by_cases e : j = k
  ·obtain ⟨x, hx⟩ := Option.isSome_iff_exists.mp a
   rw [if_pos e, e, hx, Option.map_some, if_pos rfl]
  ·rw [if_neg e]
   cases valV kvs j with
   | none => rfl
   | some x => rw [Option.map_some, if_neg e]
 ·rw [if_neg a]
  refine zago k j y kvs ?_
  rw [zad6] at a
  cases q : valV kvs k with
  | none => rfl
  | some x => rw [q] at a; exact (a rfl).elim
theorem zadd (kvs : List (κ × V)) (k : κ) (v : V) : (putK kvs k v).length ≤ kvs.length + 1 := by
 unfold putK
 split
 ·rw [List.length_map]; omega
 ·rw [List.length_append, List.length_cons, List.length_nil]; omega
theorem RelO.isSome_eq {o : Option V} {u : Option Value} (r : RelO o u) : o.isSome = u.isSome := by
 cases o with
 | none => cases u with
  | none => rfl
  | some _ => exact (show False from r).elim
 | some _ => cases u with
  | none => exact (show False from r).elim
  | some _ => rfl
theorem RelO.getD {o : Option V} {u : Option Value} {d : V} {d' : Value} (r : RelO o u) (rd : RelV d d') : RelV (o.getD d) (u.getD d') := by
 cases o with
 | none => cases u with
  | none => exact rd
  | some _ => exact (show False from r).elim
 | some _ => cases u with
  | none => exact (show False from r).elim
  | some _ => exact r
theorem KV.val {kvs : List (κ × V)} {vs : List (κ × Value)} (r : KV kvs vs) (k : κ) : RelO (valV kvs k) (valueAt vs k) := by
 unfold KV at r
 induction r with
 | nil => exact True.intro
 | @cons p q ps qs h t ih =>
  obtain ⟨h1, h2⟩ := h
  by_cases e : p.1 = k
  ·have e' : q.1 = k := h1.symm.trans e
   have b : valueAt (q :: qs) k = some q.2 := by simp [valueAt, List.find?_cons, e']
   rw [zacb e, b]; exact h2
  ·have e' : ¬ q.1 = k := fun z => e (h1.trans z)
   have b : valueAt (q :: qs) k = valueAt qs k := by simp [valueAt, List.find?_cons, e']
   rw [zacc e, b]; exact ih
theorem KV.any {kvs : List (κ × V)} {vs : List (κ × Value)} (r : KV kvs vs) (k : κ) : (kvs.any fun kv => decide (kv.1 = k)) = vs.any fun kv => decide (kv.1 = k) := by
 unfold KV at r
 induction r with
 | nil => rfl
 | cons h t ih => rw [List.any_cons, List.any_cons, ih, h.1]
theorem KV.repl {kvs : List (κ × V)} {vs : List (κ × Value)} (r : KV kvs vs) (k : κ) {y : V} {u : Value} (ry : RelV y u) :
  KV (kvs.map fun kv => if kv.1 = k then (kv.1, y) else kv) (vs.map fun kv => if kv.1 = k then (kv.1, u) else kv) := by
 unfold KV at r ⊢
 induction r with
 | nil => exact .nil
 | @cons p q ps qs h t ih =>
  rw [List.map_cons, List.map_cons]
  refine .cons ?_ ih
  obtain ⟨h1, h2⟩ := h
  by_cases e : p.1 = k
  ·rw [if_pos e, if_pos (h1.symm.trans e)]; exact ⟨h1, ry⟩
  ·rw [if_neg e, if_neg (fun z => e (h1.trans z))]; exact ⟨h1, h2⟩
theorem KV.put {kvs : List (κ × V)} {vs : List (κ × Value)} (r : KV kvs vs) (k : κ) {y : V} {u : Value} (ry : RelV y u) : KV (putK kvs k y) (stored vs k u) := by
 unfold putK stored
 rw [r.any k]
 by_cases e : (vs.any fun kv => decide (kv.1 = k)) = true
 ·rw [if_pos e, if_pos e]; exact r.repl k ry
 ·rw [if_neg e, if_neg e]; exact Paired.snoc r ⟨rfl, ry⟩
theorem KV.length {kvs : List (κ × V)} {vs : List (κ × Value)} (r : KV kvs vs) : kvs.length = vs.length := Paired.length r
end
theorem zaou {P : Program} {w : World} {k : Key} {u : Value} (r : RelV (kV k) u) : (mixKind P w).is k u = true := by
 cases k with
 | inl i => obtain ⟨t, e⟩ := (show ∃ t, u = Value.int i t from r); subst e; exact zag3 P w i t
 | inr x => obtain ⟨t, e⟩ := (show ∃ t, u = Value.str x t from r); subst e; exact zag4 P w x t
theorem zaqy {a b : Key} (e : kV a = kV b) : a = b := by
 cases a with
 | inl i => cases b with
  | inl j => have e' : V.int i = V.int j := e; injection e' with e'; rw [e']
  | inr y => exact nomatch (show V.int i = V.str y from e)
 | inr x => cases b with
  | inl j => exact nomatch (show V.str x = V.int j from e)
  | inr y => have e' : V.str x = V.str y := e; injection e' with e'; rw [e']
theorem zagp {P : Program} {w : World} : ∀ {ks : List Key} {us : List Value}, Vals (ks.map kV) us → ItemsAre (mixKind P w) ks us
 | [], _, r => by rw [List.map_nil] at r; cases r; exact .nil
 | k :: ks, _, r => by
  rw [List.map_cons] at r
  cases r with
  | cons h t => exact .cons (zaou h) (zagp t)
abbrev KT (H : Hp) : List (List Key × V) → List (List Key × Addr × Value) → Prop := Paired fun p q => p.1 = q.1 ∧ H q.2.1 = some (.tup (p.1.map kV)) ∧ RelV p.2 q.2.2
theorem KT.val {H : Hp} {kvs : List (List Key × V)} {xs : List (List Key × Addr × Value)} (r : KT H kvs xs) (k : List Key) : RelO (valV kvs k) ((atKey xs k).map (·.2)) := by
 induction r with
 | nil => exact True.intro
 | @cons p q ps qs h t ih =>
  obtain ⟨h1, _, h2⟩ := h
  by_cases e : p.1 = k
  ·have e' : q.1 = k := h1.symm.trans e
   have b : atKey (q :: qs) k = some q.2 := by simp [atKey, List.find?_cons, e']
   rw [zacb e, b]; exact h2
  ·have e' : ¬ q.1 = k := fun z => e (h1.trans z)
   have b : atKey (q :: qs) k = atKey qs k := by simp [atKey, List.find?_cons, e']
   rw [zacc e, b]; exact ih
theorem KT.repl {H : Hp} {kvs : List (List Key × V)} {xs : List (List Key × Addr × Value)} (r : KT H kvs xs) (k : List Key) {y : V} {u : Value} (ry : RelV y u) :
  KT H (kvs.map fun kv => if kv.1 = k then (kv.1, y) else kv) (xs.map (putAt k u)) := by
 induction r with
 | nil => exact .nil
 | @cons p q ps qs h t ih =>
  rw [List.map_cons, List.map_cons]
  refine .cons ?_ ih
  obtain ⟨h1, h2, h3⟩ := h
  unfold putAt
  by_cases e : p.1 = k
  ·rw [if_pos e, if_pos (h1.symm.trans e)]; exact ⟨h1, h2, ry⟩
  ·rw [if_neg e, if_neg (fun z => e (h1.trans z))]; exact ⟨h1, h2, h3⟩
theorem KT.put {H : Hp} {kvs : List (List Key × V)} {xs : List (List Key × Addr × Value)} (r : KT H kvs xs) (k : List Key) {b : Addr} {y : V} {u : Value} (hb : H b = some (.tup (k.map kV))) (ry : RelV y u) :
  KT H (putK kvs k y) (storedH xs k b u) := by
 have e : (kvs.any fun kv => decide (kv.1 = k)) = (atKey xs k).isSome := by
  rw [zad6, (r.val k).isSome_eq, Option.isSome_map]
 unfold putK storedH
 rw [e]
 by_cases q : (atKey xs k).isSome = true
 ·rw [if_pos q, if_pos q]; exact r.repl k ry
 ·rw [if_neg q, if_neg q]; exact Paired.snoc r ⟨rfl, hb, ry⟩
theorem KT.keeps {H H' : Hp} {kvs : List (List Key × V)} {xs : List (List Key × Addr × Value)} (r : KT H kvs xs) (ht : ∀ b ys, H b = some (.tup ys) → H' b = some (.tup ys)) : KT H' kvs xs :=
 Paired.mapP r fun _ _ z => ⟨z.1, ht _ _ z.2.1, z.2.2⟩
section
variable {P : Program} {w : World} {H : Hp} {h : Heap} {a : Addr}
theorem zaqz {u : HO} (ok : HOk P w H h) (e : Rd H a u) : ObjOk P w H h a u := e.ok ok
theorem zaov {kvs : List (Key × V)} (ok : HOk P w H h) (e : Rd H a (.dK kvs)) : kvs.length ≤ sizeLine ∧ (a == sysModules) = false ∧ ∃ vs, KV kvs vs ∧ h.DictOf (mixKind P w) a vs :=
 show ObjOk P w H h a (.dK kvs) from zaqz ok e
theorem zarq {kvs : List (Key × V)} (ok : HOk P w H h) (e : H a = some (.dK kvs)) : kvs.length ≤ sizeLine ∧ (a == sysModules) = false ∧ ∃ vs, KV kvs vs ∧ h.DictOf (mixKind P w) a vs := zaov ok (.inl e)
theorem zajq {ks : List Key} (ok : HOk P w H h) (e : H a = some (.tup (ks.map kV))) : (tupleKind (mixKind P w)).is h ks a := by
 obtain ⟨_, its, r, o, h1, h2, n, h3⟩ := (show ObjOk P w H h a (.tup (ks.map kV)) from ok a _ e)
 exact ⟨o, its.toArray, n, h1, h2, h3, by simpa using zagp r⟩
theorem zaow {kvs : List (List Key × V)} (ok : HOk P w H h) (e : Rd H a (.dT kvs)) : kvs.length ≤ sizeLine ∧ (a == sysModules) = false ∧
  ∃ xs, KT H kvs xs ∧ h.DictOfH (tupleKind (mixKind P w)) a xs := by
 obtain ⟨z, y, xs, r, o, es, ep, h1, h2, h3, h4, h5⟩ := (show ObjOk P w H h a (.dT kvs) from zaqz ok e)
 refine ⟨z, y, xs, r, o, es, ep, h1, h2, h3, h4, fun x hx => ?_, h5⟩
 have all : ∀ {l : List (List Key × V)} {m : List (List Key × Addr × Value)}, KT H l m → ∀ x ∈ m, (tupleKind (mixKind P w)).is h x.1 x.2.1 := by
  intro l m q
  induction q with
  | nil => intro x hx; exact nomatch hx
  | @cons p q ps qs hq t ih =>
   intro x hx
   rcases List.mem_cons.mp hx with e | hx
   ·subst e
    exact zajq ok (by rw [← hq.1]; exact hq.2.1)
   ·exact ih x hx
 exact all r x hx
theorem zarr {kvs : List (List Key × V)} (ok : HOk P w H h) (e : H a = some (.dT kvs)) : kvs.length ≤ sizeLine ∧ (a == sysModules) = false ∧
  ∃ xs, KT H kvs xs ∧ h.DictOfH (tupleKind (mixKind P w)) a xs := zaow ok (.inl e)
end
def DGet (H : Hp) (a : Addr) (y : V) (r : Option V) : Prop :=
 (∃ kvs k, Rd H a (.dK kvs) ∧ y = kV k ∧ r = valV kvs k) ∨ ∃ kvs k b, Rd H a (.dT kvs) ∧ y = .ref b ∧ H b = some (.tup (k.map kV)) ∧ r = valV kvs k
def DPut (H : Hp) (a : Addr) (y v : V) (H' : Hp) : Prop :=
 (∃ kvs k, H a = some (.dK kvs) ∧ y = kV k ∧ kvs.length < sizeLine ∧ H' = upd H a (.dK (putK kvs k v))) ∨
 ∃ kvs k b, H a = some (.dT kvs) ∧ y = .ref b ∧ H b = some (.tup (k.map kV)) ∧ kvs.length < sizeLine ∧ H' = upd H a (.dT (putK kvs k v))
theorem DGet.t {H : Hp} {a b : Addr} {kvs : List (List Key × V)} {k : List Key} (e : H a = some (.dT kvs)) (eb : H b = some (.tup (k.map kV))) : DGet H a (.ref b) (valV kvs k) := .inr ⟨kvs, k, b, .inl e, rfl, eb, rfl⟩
theorem DPut.t {H : Hp} {a b : Addr} {kvs : List (List Key × V)} {k : List Key} {v : V} (e : H a = some (.dT kvs)) (eb : H b = some (.tup (k.map kV))) (hl : kvs.length < sizeLine) :
  DPut H a (.ref b) v (upd H a (.dT (putK kvs k v))) := .inr ⟨kvs, k, b, e, rfl, eb, hl, rfl⟩
section
variable {X : Cx} {pins : List (Addr × Obj)} {σ : St} {H : Hp} {s : Shared} {a : Addr} {y v : V} {u r : Value} {o : Option V} {A : Around} {E : Value → Shared → Prop}
theorem Inv.big (I : Inv X pins σ H s) : sysModules < s.heap.objs.size := by
 have h : mainGlobals < s.heap.objs.size := (I.mod.glob.keeps I.bk).lt
 exact Nat.lt_trans (by decide) h
theorem zajr {h' : Heap} {t' : Nat} {ob : HO} (I : Inv X pins σ H s) (mu : Mut (H a)) (hs : Heap.SameBut a s.heap h') (he : ∃ q, h'.get? a = some q) (new : ObjOk X.prog X.w (upd H a ob) h' a ob) :
  Inv X pins σ (upd H a ob) { s with heap := h', toks := t' } :=
 I.write (x := a) (e := a) mu (.inl rfl) (fun b q hb z => (hs.2 b hb).trans z) he new
theorem zaq0 {P : Program} {w : World} {H' : Hp} {h' : Heap} {kvs : List (Key × V)} {vs : List (Key × Value)} (z : kvs.length ≤ sizeLine) (hd : (a == sysModules) = false) (rel : KV kvs vs) (dd : h'.DictOf (mixKind P w) a vs) :
  ObjOk P w H' h' a (.dK kvs) := ⟨z, hd, vs, rel, dd⟩
theorem zajs {H' : Hp} {Q : Unit → Shared → Prop} (hu : A.units + 1 < cLine) (I : Inv X pins σ H s) (g : DPut H a y v H') (ry : RelV y u) (rv : RelV v r) (h : ∀ s', Inv X pins σ H' s' → Q () s') :
  wpAny (model X.prog X.w) A (setItem (.ref a) u r) Q E s := by
 rcases g with ⟨kvs, k, e, ey, l, eH⟩ | ⟨kvs, k, b, e, ey, eb, l, eH⟩
 ·subst ey eH
  obtain ⟨z, hd, vs, rel, dd⟩ := zarq I.hok e
  have hz : vs.length ≤ sizeLine := by rw [← rel.length]; exact z
  have hl : (putK kvs k v).length ≤ sizeLine := by have := zadd kvs k v; omega
  refine wpAny_setItem_pairs (hsz := hz) (zaou ry) dd fun h' dd' hs => h _ ?_
  have he : ∃ q, h'.get? a = some q := let ⟨q, _, _, hq, _⟩ := dd'; ⟨q, hq⟩
  exact zajr I (by rw [e]; exact True.intro) hs he (zaq0 hl hd (rel.put k rv) dd')
 ·subst ey eH
  cases (show u = Value.ref b from ry)
  obtain ⟨z, hd, xs, rel, dd⟩ := zarr I.hok e
  have hz : xs.length ≤ sizeLine := by rw [← Paired.length rel]; exact z
  have hl : (putK kvs k v).length ≤ sizeLine := by have := zadd kvs k v; omega
  refine wpAny_setItem_heap (hsz := hz) (tupleKind_room_in1 hu) (zajq I.hok eb) dd fun h' dd' hs => h _ ?_
  obtain ⟨q, es, ep, hq, h2, h3, h4, _, h5⟩ := dd'
  refine zajr I (by rw [e]; exact True.intro) hs ⟨q, hq⟩ ⟨hl, hd, _, (rel.put k eb rv).keeps fun c ys ec => ?_, q, es, ep, hq, h2, h3, h4, h5⟩
  rw [zaa5 (zal2 ec e (fun z => nomatch z))]
  exact ec
end
section
variable {X : Cx} {pins : List (Addr × Obj)} {σ : St} {H : Hp} {s : Shared} {a : Addr} {kvs : List (Key × V)} {k : Key} {u : Value} {A : Around} {E : Value → Shared → Prop}
end
def NoSl (i : Expr) : Prop := ∀ ov iv, subscripted i false ov iv = operate [ov, iv] (getItem ov iv)
def tDGet (td ty : TE) : TE := fun σ H Q => td σ H fun x H1 => ty σ H1 fun y H2 => ∃ a v, x = .ref a ∧ DGet H2 a y (some v) ∧ Q v H2
def tDIn (ty td : TE) : TE := fun σ H Q => ty σ H fun y H1 => td σ H1 fun x H2 => ∃ a o, x = .ref a ∧ DGet H2 a y o ∧ Q (.bl o.isSome) H2
def tDNotIn (ty td : TE) : TE := fun σ H Q => ty σ H fun y H1 => td σ H1 fun x H2 => ∃ a o, x = .ref a ∧ DGet H2 a y o ∧ Q (.bl (!o.isSome)) H2
def sDPut (td ty tv : TE) : TS := fun D σ H => tv σ H fun v H1 => td σ H1 fun x H2 => ty σ H2 fun y H3 => ∃ a H4, x = .ref a ∧ DPut H3 a y v H4 ∧ D.nx σ H4
def sDAug (td ty tv : TE) (rd : V → V → Hp → VK → Prop) : TS := fun D σ H => td σ H fun x H1 => ty σ H1 fun y H2 => ∃ a v, x = .ref a ∧ DGet H2 a y (some v) ∧
 tv σ H2 fun y2 H3 => rd v y2 H3 fun z H4 => ∃ H5, DPut H4 a y z H5 ∧ D.nx σ H5
def sDDel (td ty : TE) : TS := fun D σ H => td σ H fun x H1 => ty σ H1 fun y H2 => ∃ a kvs k, x = .ref a ∧ H2 a = some (.dK kvs) ∧ y = kV k ∧ (valV kvs k).isSome = true ∧ D.nx σ (upd H2 a (.dK (dropK kvs k)))
section
variable {X : Cx} {o i e value : Expr} {pos pos' tpos : Pos} {td ty tv : TE}
theorem zaox (hu : X.A.units + 1 < cLine) (ho : PE X o td) (hi : PE X i ty) (hv : PE X value tv) (hs : swapsWith value (some (.Subscript o i pos')) pos.line X.env = pure false) :
  PS X (.Assign [.Subscript o i pos'] value pos) (sDPut td ty tv) := by
 intro pins s σ H D I h
 refine wpAny_Assign_Subscript (thn (hv pins s σ H _ I h) fun r s1 ⟨v, H1, I1, rv, q1⟩ => thn (ho pins s1 σ H1 _ I1 q1) fun u s2 ⟨x, H2, I2, rx, q2⟩ => thn (hi pins s2 σ H2 _ I2 q2) fun iv s3 ⟨y, H3, I3, ry, a, H4, ex, g, q3⟩ => ?_) hs
 subst ex
 obtain rfl : u = Value.ref a := rx
 exact zajs hu I3 g ry rv fun s4 I4 => ⟨σ, H4, I4, q3⟩
end
theorem zamj {P : Program} {w : World} {H : Hp} (h : Heap) (hb : sysModules < h.objs.size) : ObjOk P w H (h.push { cls := .type "dict", data := .dict #[] }) h.objs.size (.dT []) :=
 ⟨Nat.zero_le _, beq_eq_false_iff_ne.mpr (Ne.symm (Nat.ne_of_lt hb)), [], .nil, _, #[], 0, Heap.get?_push_size _ rfl, ⟨rfl, rfl, rfl⟩, rfl, rfl, List.nodup_nil⟩
def tDNewK : TE := fun _ H Q => ∀ p, H p = none → Q (.ref p) (upd H p (.dK []))
def tDNewT : TE := fun _ H Q => ∀ p, H p = none → Q (.ref p) (upd H p (.dT []))
section
variable {X : Cx} {pos : Pos}
theorem zamk : PE X (.Dict [] [] pos) tDNewT := fun pins s σ H Q I h =>
 wpAny_Dict_empty ⟨.ref s.heap.objs.size, _, I.laid (a := s.heap.objs.size) (o := .dT []) (t' := s.toks) (fun _ _ q => Heap.get?_push_of_some _ q) (Nat.le_refl _) (zamj s.heap I.big), rfl, h _ (I.hok.fresh (Nat.le_refl _))⟩
end
def tPairs : List (TE × TE) → St → Hp → (List (V × V) → Hp → Prop) → Prop
 | [], _, H, Q => Q [] H
 | (tk, tv) :: r, σ, H, Q => tk σ H fun x H1 => tv σ H1 fun y H2 => tPairs r σ H2 fun ps H3 => Q ((x, y) :: ps) H3
abbrev VV : List (V × V) → List (Value × Value) → Prop := Paired fun p q => RelV p.1 q.1 ∧ RelV p.2 q.2
def PPs (X : Cx) (pos : Pos) (keys : List (Option Expr)) (values : List Expr) (trs : List (TE × TE)) : Prop :=
 ∀ (pins : List (Addr × Obj)) (s : Shared) (σ : St) (H : Hp) (Q : List (V × V) → Hp → Prop), Inv X pins σ H s → tPairs trs σ H Q →
  wpAny (model X.prog X.w) X.A (evalPairs (pairTrees keys values X.env pos)) (fun vs s' => ∃ ps H', Inv X pins σ H' s' ∧ VV ps vs ∧ Q ps H') X.xe s
def mergeK (kvs more : List (Key × V)) : List (Key × V) := more.foldl (fun acc kv => putK acc kv.1 kv.2) kvs
def tDisp (trs : List (TE × TE)) : TE := fun σ H Q => ∀ p, H p = none → tPairs trs σ (upd H p (.dK [])) fun ps H2 => H2 p = some (.dK []) ∧ ∃ kvs : List (Key × V), ps = kvs.map (fun kv => (kV kv.1, kv.2)) ∧ kvs.length ≤ 15 ∧ Q (.ref p) (upd H2 p (.dK (mergeK [] kvs)))
structure M1 (X : Cx) (o : Expr) (m : Str) (apos : Pos) (e : Expr) (cpos : Pos) : Prop where
 base : attributeBase o m X.env (eval o X.env) = eval o X.env
 few : ((backTo cpos (starEach [e] X.env)).all (fun x => !x.1) && (backToKw cpos (keywordEach [] X.env)).all (fun x => x.1.isSome)
  && decide (([e] : List Expr).length + ([] : List Keyword).length + (if ([] : List Keyword).isEmpty then 0 else 1) < 30)) = true
 line : (apos.endLine == cpos.line) = true
 trees : backTo cpos (starEach [e] X.env) = [(false, eval e X.env)]
structure M2 (X : Cx) (o : Expr) (m : Str) (apos : Pos) (e f : Expr) (cpos : Pos) : Prop where
 base : attributeBase o m X.env (eval o X.env) = eval o X.env
 few : ((backTo cpos (starEach [e, f] X.env)).all (fun x => !x.1) && (backToKw cpos (keywordEach [] X.env)).all (fun x => x.1.isSome)
  && decide (([e, f] : List Expr).length + ([] : List Keyword).length + (if ([] : List Keyword).isEmpty then 0 else 1) < 30)) = true
 line : (apos.endLine == cpos.line) = true
 trees : backTo cpos (starEach [e, f] X.env) = [(false, eval e X.env), (false, eval f X.env)]
def IsD (H : Hp) (a : Addr) : Prop := (∃ kvs, Rd H a (.dK kvs)) ∨ ∃ kvs, Rd H a (.dT kvs)
theorem zaq1 {X : Cx} {pins : List (Addr × Obj)} {σ : St} {H : Hp} {s : Shared} {a : Addr} (I : Inv X pins σ H s) (d : IsD H a) :
  s.TypeIs (.ref a) "dict" ∧ (∀ b, Value.ref a = .ref b → ∃ ob, s.heap.get? b = some ob ∧ ob.dict = none) ∧ (a == sysModules) = false := by
 rcases d with ⟨kvs, e⟩ | ⟨kvs, e⟩
 ·obtain ⟨_, hd, vs, _, dd⟩ := zaov I.hok e
  refine ⟨dd.typeIs, fun b q => ?_, hd⟩
  cases q
  obtain ⟨ob, _, _, h1, h2, _⟩ := dd
  exact ⟨ob, h1, h2.2.1⟩
 ·obtain ⟨_, hd, xs, _, dd⟩ := zaow I.hok e
  refine ⟨dd.typeIs, fun b q => ?_, hd⟩
  cases q
  obtain ⟨ob, _, _, h1, h2, _⟩ := dd
  exact ⟨ob, h1, h2.2.1⟩
section
variable {X : Cx} {pins : List (Addr × Obj)} {σ : St} {H : Hp} {s : Shared} {a : Addr} {y d : V} {u r : Value} {o : Option V} {A : Around} {E : Value → Shared → Prop}
theorem zaq2 {Q : Value → Shared → Prop} (hu : A.units + 1 < cLine) (I : Inv X pins σ H s) (g : DGet H a y o) (ry : RelV y u) (rd : RelV d r) (h : ∀ w' s', Inv X pins σ H s' → RelV (o.getD d) w' → Q w' s') :
  wpAny (model X.prog X.w) A (call (.builtin "dict.get") [.ref a, u, r]) Q E s := by
 rcases g with ⟨kvs, k, e, ey, l⟩ | ⟨kvs, k, b, e, ey, eb, l⟩
 ·subst ey
  obtain ⟨z, hd, vs, rel, dd⟩ := zaov I.hok e
  refine call_meetsIn PySem.F.slot_dict_get dd.typeIs PySem.F.entry_dict_get (PySem.F.args_dict_get_3 _ _ _) (meets_dict_get_default (mixKind X.prog X.w) a (zaou ry) hd r) ⟨_, dd.mapOf, h _ _ (I.tok _) ?_⟩
  rw [l]
  exact (rel.val k).getD rd
 ·subst ey
  cases (show u = Value.ref b from ry)
  obtain ⟨z, hd, xs, rel, dd⟩ := zaow I.hok e
  refine call_meetsIn PySem.F.slot_dict_get dd.typeIs PySem.F.entry_dict_get (PySem.F.args_dict_get_3 _ _ _) (meetsH_dict_get_default (tupleKind (mixKind X.prog X.w)) a b hd r) ⟨tupleKind_room_in1 hu, k, xs, zajq I.hok eb, dd, h _ _ (I.tok _) ?_⟩
  rw [l]
  exact (rel.val k).getD rd
end
def tDGet1 (td ty : TE) : TE := fun σ H Q => td σ H fun x H1 => ∃ a, x = .ref a ∧ IsD H1 a ∧ ty σ H1 fun y H2 => ∃ o, DGet H2 a y o ∧ Q (o.getD .non) H2
def tDGet2 (td ty tx : TE) : TE := fun σ H Q => td σ H fun x H1 => ∃ a, x = .ref a ∧ IsD H1 a ∧ ty σ H1 fun y H2 => tx σ H2 fun z H3 => ∃ o, DGet H3 a y o ∧ Q (o.getD z) H3
def tDPop1 (td ty : TE) : TE := fun σ H Q => td σ H fun x H1 => ∃ a, x = .ref a ∧ IsD H1 a ∧ ty σ H1 fun y H2 => ∃ kvs k v, H2 a = some (.dK kvs) ∧ y = kV k ∧ valV kvs k = some v ∧ Q v (upd H2 a (.dK (dropK kvs k)))
def tDPop2 (td ty tx : TE) : TE := fun σ H Q => td σ H fun x H1 => ∃ a, x = .ref a ∧ IsD H1 a ∧ ty σ H1 fun y H2 => tx σ H2 fun z H3 => ∃ kvs k, H3 a = some (.dK kvs) ∧ y = kV k ∧
 (∀ v, valV kvs k = some v → Q v (upd H3 a (.dK (dropK kvs k)))) ∧ (valV kvs k = none → Q z H3)
section
variable {X : Cx} {o e f : Expr} {apos cpos : Pos} {td ty tx : TE}
theorem zaml (hu : X.A.units + 1 < cLine) (ho : PE X o td) (he : PE X e ty) (hf : PE X f tx) (m : M2 X o "get" apos e f cpos) : PE X (.Call (.Attribute o "get" apos) [e, f] [] cpos) (tDGet2 td ty tx) := by
 intro pins s σ H Q I h
 refine wpAny_Call_method m.base m.few m.line PySem.F.plainAttrs_dict PySem.F.slot_dict_get PySem.F.type_dict_get (thn (ho pins s σ H _ I h) fun u s1 ⟨x, H1, I1, rx, a, ex, d, q1⟩ => ?_)
 subst ex
 obtain rfl : u = Value.ref a := rx
 obtain ⟨t1, t2, _⟩ := zaq1 I1 d
 refine ⟨t1, t2, ?_⟩
 rw [m.trees]
 refine Calls.callWith_builtin rfl (Calls.evalArgs_plain (Calls.spliced_cons (thn (he pins s1 σ H1 _ I1 q1) fun iv s2 ⟨y, H2, I2, ry, q2⟩ =>
  Calls.spliced_cons (thn (hf pins s2 σ H2 _ I2 q2) fun fv s3 ⟨z, H3, I3, rz, ov, g, q3⟩ => Calls.spliced_nil ?_))))
 exact zaq2 hu I3 g ry rz fun w' s4 I4 rw' => ⟨_, H3, I4, rw', q3⟩
end
section
variable {X : Cx} {pins : List (Addr × Obj)} {σ : St} {H : Hp} {s : Shared} {a : Addr} {kvs : List (Key × V)} {A : Around} {E : Value → Shared → Prop}
end
section
variable {X : Cx} {pins : List (Addr × Obj)} {σ : St} {H : Hp} {s : Shared} {a : Addr} {y : V} {u : Value} {A : Around} {E : Value → Shared → Prop}
end
section
variable {X : Cx}
end
section
variable {κ : Type} [DecidableEq κ]
end
end L2

namespace L2
open PySem PySem.Spec PyProof.Rows
structure DefOk (P : Program) (w : World) (K : PySem.W.Frag) (mg : Str → Option Value) (base : Heap) (CX : CXT) (k : Nat) (x : Str) (ps : List Str) (sp : Sp) : Prop where
 ex : ∃ (f : Addr) (fd : FuncData), FnOk P w K mg base CX k f fd ps sp ∧ Binds K fd ps [] ∧ PySem.W.keepIn K (.ref f) = true ∧ mg x = some (.ref f)
theorem DefOk.mono {P : Program} {w : World} {K : PySem.W.Frag} {mg : Str → Option Value} {base : Heap} {CX : CXT} {j k : Nat} {x : Str} {ps : List Str} {sp : Sp} (D : DefOk P w K mg base CX j x ps sp) (h : j ≤ k) : DefOk P w K mg base CX k x ps sp := by
 obtain ⟨f, fd, F, b⟩ := D.ex
 exact ⟨f, fd, F.mono h, b⟩
section
variable {X : Cx} {CX : CXT} {k : Nat} {ps : List Str} {sp : Sp} {E : XK} {x : Str} {p pos : Pos} {e : Expr} {es : List Expr} {t : TA}
theorem zamm (D : DefOk X.prog X.w X.K X.mg X.base CX k x ps sp) (hr : Room k X.A) (hg : Gl X x) (hx : Passes CX X E) (ha : PA X (e :: es) t) (hdb : (x == ("__debug__" : Str)) = false := by decide)
  (he : starEach (e :: es) X.env = (false, eval e X.env) :: starEach es X.env := by rfl) (hpl : (backTo pos (starEach es X.env)).any (·.1) = false := by rfl) :
  PE X (.Call (.Name x p) (e :: es) [] pos) (tCall sp [] E t) := by
 obtain ⟨f, fd, F, b, kp, m⟩ := D.ex
 exact zaon F hr hg m kp b .nil hx ha hdb he hpl
end
def CDivW (_ j : Int) : Prop := 0 < j ∧ j < 2 ^ 64
theorem zacx {X : Cx} : OpR X (binaryOp .FloorDiv) (rI CDivW fun i j => .int (i / j)) := opI fun i j _ _ _ _ _ hc q => by
 have h1 : (0 : Int) < j := hc.1
 have h2 : j < 2 ^ 64 := hc.2
 have h3 : j.natAbs.log2 < 64 := (Nat.log2_lt (by omega)).mpr (by omega)
 exact floordiv_int (by omega) (by rw [Int.fdiv_eq_ediv_of_nonneg i (by omega)]; exact q) (.inl (PyProof.noPylong_of_log2 (by omega)))
def Ch (W : List Addr) (H H' : Hp) : Prop := ∀ b o, H b = some o → b ∉ W → H' b = some o
theorem Ch.refl (W : List Addr) (H : Hp) : Ch W H H := fun _ _ h _ => h
theorem Ch.trans {W : List Addr} {H H1 H2 : Hp} (a : Ch W H H1) (b : Ch W H1 H2) : Ch W H H2 := fun c o h n => b c o (a c o h n) n
theorem Ch.get {W : List Addr} {H H' : Hp} {b : Addr} {o : HO} (c : Ch W H H') (h : H b = some o) (n : b ∉ W) : H' b = some o := c b o h n
theorem Ch.mono {W W' : List Addr} {H H' : Hp} (c : Ch W H H') (h : ∀ b ∈ W, b ∈ W') : Ch W' H H' := fun b o q n => c b o q fun z => n (h b z)
theorem Ch.wk {W : List Addr} {H H' : Hp} (c : Ch [] H H') : Ch W H H' := c.mono fun b h => nomatch h
theorem Ch.new {W : List Addr} {H : Hp} {p : Addr} (h : H p = none) (o : HO) : Ch W H (upd H p o) := fun b u q _ => by rw [zaa5 (zabd q h)]; exact q
theorem Ch.put {H : Hp} {p : Addr} {o : HO} : Ch [p] H (upd H p o) := fun b u q n => by rw [zaa5 (fun z => n (by simp [z]))]; exact q
def Scr (K : PySem.W.Frag) (H : Hp) (a : Addr) (ns : List Int) : Prop :=
 ns.length ≤ 63 ∧ ((∃ o, H a = some (.frz o (.lst (ns.map V.int)))) ∨
  ∃ (o : Obj) (its : Array Value) (n : Nat), K.lookup a = some o ∧ o.cls = .type "list" ∧ o.dict = none ∧ o.data = .seq its n ∧ its.size ≤ sizeLine ∧ Vals (ns.map V.int) its.toList)
theorem Scr.sq {K : PySem.W.Frag} {H : Hp} {a : Addr} {ns : List Int} (S : Scr K H a ns) : SqL K H a (ns.map V.int) := by
 rcases S.2 with ⟨o, h⟩ | h
 ·exact .inl (.inr ⟨o, h⟩)
 ·exact .inr h
theorem Scr.ch {K : PySem.W.Frag} {H H' : Hp} {a b : Addr} {ns : List Int} {xs : List V} (S : Scr K H a ns) (hb : H b = some (.lst xs)) (c : Ch [b] H H') : Scr K H' a ns := by
 refine ⟨S.1, ?_⟩
 rcases S.2 with ⟨o, h⟩ | h
 ·exact .inl ⟨o, c.get h (by
   intro z
   have e : a = b := by simpa using z
   subst e
   rw [h] at hb
   cases hb)⟩
 ·exact .inr h
theorem Scr.same {K : PySem.W.Frag} {H H' : Hp} {a : Addr} {ns : List Int} (S : Scr K H a ns) (c : Ch [] H H') : Scr K H' a ns := by
 refine ⟨S.1, ?_⟩
 rcases S.2 with ⟨o, h⟩ | h
 ·exact .inl ⟨o, c.get h (by simp)⟩
 ·exact .inr h
theorem Scr.of {K : PySem.W.Frag} {H : Hp} {a : Addr} {ns : List Int} (h : SqL K H a (ns.map V.int)) (hl : ns.length ≤ 63) (hO : Only H) : Scr K H a ns := by
 refine ⟨hl, ?_⟩
 rcases h with (h | ⟨o, h⟩) | h
 ·rcases hO a with z | ⟨o, xs, z⟩
  ·rw [h] at z; cases z
  ·rw [h] at z; cases z
 ·exact .inl ⟨o, h⟩
 ·exact .inr h
theorem zabe {H : Hp} {p q : Addr} {o u : HO} (hq : H q = none) (h : H p = some o) : upd H q u p = some o := by rw [zaa5 (zabd h hq)]; exact h
theorem zaoy {H : Hp} {p q : Addr} {o u : HO} (n : p ≠ q) (h : H p = some o) : upd H q u p = some o := by rw [zaa5 n]; exact h
structure Loop (J : It) (g : TG) (tb : TS) (D : Ends) (σ : St) (H : Hp) : Prop where
 ex : ∃ W : Nat → Nat → St → Hp → Prop, (∃ m, W 0 m σ H) ∧ ∀ i m σ H, W i m σ H →
  (J.stop i H ∧ D.nx σ H) ∨ (J.go i H ∧ ∃ N : St → Hp → Prop, (∀ σ' H', N σ' H' → ∃ m', m' < m ∧ W (i + 1) m' σ' H') ∧ ∀ x H', J.yld i H x H' → g x σ H' fun σ2 H2 => tb { D with nx := N, ct := N, bk := D.nx } σ2 H2)
def tLoop (wi : TI) (g : TG) (tb : TS) : TS := fun D σ H => wi σ H fun J H1 => Loop J g tb D σ H1
theorem zaoz {X : Cx} {tg iter : Expr} {body : List Stmt} {wi : TI} {g : TG} {tb : TS} {pos : Pos} (hp : PassesOwn (model X.prog X.w) X.A X.env X.xe) (hc : X.calm = true) (hi : PI X tg iter wi) (hg : PG X tg g) (hb : PSs X body tb)
  (hs : ∀ x, foldedSetIterable iter X.env x = pure x := by intro _; rfl) : PS X (.For tg iter body [] pos) (tLoop wi g tb) := by
 have hi' : PI X tg iter (fun σ H R => ∃ R0 : It → Hp → Prop, wi σ H R0 ∧ ∀ J H1, R0 J H1 → R J H1) := by
  intro pins s σ H R I ⟨R0, h, m⟩
  refine thn (hi pins s σ H _ I h) fun v s1 h1 => thn h1 fun itv s2 h2 => ?_
  obtain ⟨it, fp, tn, J, H2, e, I2, T, st2, f2, r⟩ := h2
  exact ⟨it, fp, tn, J, H2, e, I2, T, st2, f2, m _ _ r⟩
 intro pins s σ H D I h
 exact zaqm hp hc hi' hg hb hs pins s σ H D I ⟨_, h, fun J H1 l => l.ex⟩
theorem zagq {K : PySem.W.Frag} {a : Addr} {xs : List V} {g : TG} {tb : TS} {D : Ends} {σ : St} {H : Hp} (Pv : Nat → St → Hp → Prop) (h0 : Pv 0 σ H) (hl : ∀ i σ H, i ≤ xs.length → Pv i σ H → SqL K H a xs)
  (hs : ∀ i x σ H, xs[i]? = some x → Pv i σ H → g x σ H fun σ2 H2 => tb { D with nx := Pv (i + 1), ct := Pv (i + 1), bk := D.nx } σ2 H2) (hd : ∀ σ H, Pv xs.length σ H → D.nx σ H) : Loop (Itl K a) g tb D σ H := ⟨zal6 Pv h0 hl hs hd⟩
theorem zah5 {K : PySem.W.Frag} {a : Addr} {xs : List V} {g : TG} {tb : TS} {D : Ends} {σ : St} {H : Hp} (Pv : Nat → St → Hp → Prop) (h0 : Pv 0 σ H) (hl : ∀ i σ H, i ≤ xs.length → Pv i σ H → SqT K H a xs)
  (hs : ∀ i x σ H, xs[i]? = some x → Pv i σ H → g x σ H fun σ2 H2 => tb { D with nx := Pv (i + 1), ct := Pv (i + 1), bk := D.nx } σ2 H2) (hd : ∀ σ H, Pv xs.length σ H → D.nx σ H) : Loop (Itt K a) g tb D σ H := ⟨zaof Pv h0 hl hs hd⟩
theorem zabf {lo : Int} {n : Nat} {g : TG} {tb : TS} {D : Ends} {σ : St} {H : Hp} (Pv : Nat → St → Hp → Prop) (h0 : Pv 0 σ H)
  (hs : ∀ i σ H, i < n → Pv i σ H → g (.int (lo + i)) σ H fun σ2 H2 => tb { D with nx := Pv (i + 1), ct := Pv (i + 1), bk := D.nx } σ2 H2) (hd : ∀ σ H, Pv n σ H → D.nx σ H) : Loop (Itr lo n) g tb D σ H := ⟨zajb Pv h0 hs hd⟩
structure Cut (t u : TS) (D : Ends) (σ : St) (H : Hp) : Prop where
 ex : ∃ P : St → Hp → Prop, t { D with nx := P } σ H ∧ ∀ σ' H', P σ' H' → u D σ' H'
def tCut (t u : TS) : TS := fun D σ H => Cut t u D σ H
theorem zao0 {X : Cx} {st : Stmt} {rest : List Stmt} {t u : TS} (h1 : PS X st t) (h2 : PSs X rest u) : PSs X (st :: rest) (tCut t u) := by
 intro pins s σ H D I h
 obtain ⟨P, a, b⟩ := h.ex
 have h1' : PS X st (fun D' σ' H' => ∃ P : St → Hp → Prop, t { D' with nx := P } σ' H' ∧ ∀ σ2 H2, P σ2 H2 → D'.nx σ2 H2) := by
  intro pins s σ H D I ⟨P, a, b⟩
  refine thn (h1 pins s σ H _ I a) fun f s' q => ?_
  cases f with
  | next => obtain ⟨σ7, H7, I7, n7⟩ := q; exact ⟨σ7, H7, I7, b _ _ n7⟩
  | cont => exact q
  | brk => exact q
  | ret v => exact q
 exact zah0 h1' h2 pins s σ H D I ⟨P, a, b⟩
theorem zach {t u : TS} {D : Ends} {σ : St} {H : Hp} (P : St → Hp → Prop) (h1 : t { D with nx := P } σ H) (h2 : ∀ σ' H', P σ' H' → u D σ' H') : Cut t u D σ H := ⟨P, h1, h2⟩
theorem zah6 {ns : List Int} {i : Int} (h0 : 0 ≤ i) (h1 : i < (ns.length : Int)) : ∃ n : Int, atI (ns.map V.int) i = some (.int n) := by
 have hk : i.toNat < ns.length := by omega
 have ek : i = ((i.toNat : Nat) : Int) := by omega
 have q : atI (ns.map V.int) ((i.toNat : Nat) : Int) = some (.int ns[i.toNat]) := zafa (by rw [List.getElem?_map, List.getElem?_eq_getElem hk]; rfl)
 rw [← ek] at q
 exact ⟨_, q⟩
end L2

namespace L2
open PySem PySem.Spec PyProof.Rows
structure Atx {α : Type} (xs : List α) (i : Int) (R : α → Prop) : Prop where
 ex : ∃ v, atI xs i = some v ∧ R v
theorem Atx.of {α : Type} {xs : List α} {i : Int} {v : α} {R : α → Prop} (h : atI xs i = some v) (r : R v) : Atx xs i R := ⟨v, h, r⟩
section
variable {X : Cx}
theorem IxR.imp {r r' : R2} (h : IxR X r) (f : ∀ x y H Q, r' x y H Q → r x y H Q) : IxR X r' := fun value slice pins s σ H x y v u Q I rx ry q hs => h value slice pins s σ H x y v u Q I rx ry (f _ _ _ _ q) hs
def aIxL (K : PySem.W.Frag) : R2 := fun x y H Q => ∃ p xs i, x = .ref p ∧ y = .int i ∧ SqL K H p xs ∧ Atx xs i fun v => Q v H
def aIxT (K : PySem.W.Frag) : R2 := fun x y H Q => ∃ p xs i, x = .ref p ∧ y = .int i ∧ SqT K H p xs ∧ Atx xs i fun v => Q v H
def aIxS : R2 := fun x y H Q => ∃ z i, x = .str z ∧ y = .int i ∧ z.length ≤ sizeLine ∧ Atx z.cps.toList i fun c => Q (.str ⟨#[c]⟩) H
theorem zabn : IxR X (aIxL X.K) := zaor.imp fun x y H Q ⟨p, xs, i, e1, e2, h, a⟩ => let ⟨v, hv, q⟩ := a.ex; ⟨p, xs, i, v, e1, e2, h, hv, q⟩
theorem zaa9 : IxR X (aIxT X.K) := zaqw.imp fun x y H Q ⟨p, xs, i, e1, e2, h, a⟩ => let ⟨v, hv, q⟩ := a.ex; ⟨p, xs, i, v, e1, e2, h, hv, q⟩
end
end L2
namespace L2
open PySem
section
variable {es : List Expr} {env : Env}
theorem zaac {x pos} : starEach (.Name x pos :: es) env = (false, eval (.Name x pos) env) :: starEach es env := rfl
theorem zaae {c k pos} : starEach (.Constant c k pos :: es) env = (false, eval (.Constant c k pos) env) :: starEach es env := rfl
theorem zaa7 {a o b pos} : starEach (.BinOp a o b pos :: es) env = (false, eval (.BinOp a o b pos) env) :: starEach es env := rfl
theorem zaa6 {a o pos} : starEach (.UnaryOp o a pos :: es) env = (false, eval (.UnaryOp o a pos) env) :: starEach es env := rfl
theorem zabt {a o b pos} : starEach (.Call a o b pos :: es) env = (false, eval (.Call a o b pos) env) :: starEach es env := rfl
theorem zaar {a k pos} : starEach (.Tuple a k pos :: es) env = (false, eval (.Tuple a k pos) env) :: starEach es env := rfl
theorem zag7 {a pos} : starEach (.List a pos :: es) env = (false, eval (.List a pos) env) :: starEach es env := rfl
theorem zaat {a b pos} : starEach (.Subscript a b pos :: es) env = (false, eval (.Subscript a b pos) env) :: starEach es env := rfl
theorem zaiw {a b c pos} : starEach (.Compare a b c pos :: es) env = (false, eval (.Compare a b c pos) env) :: starEach es env := rfl
theorem zamn {a b c pos} : starEach (.IfExp a b c pos :: es) env = (false, eval (.IfExp a b c pos) env) :: starEach es env := rfl
theorem zaa0 {a b pos} : starEach (.Attribute a b pos :: es) env = (false, eval (.Attribute a b pos) env) :: starEach es env := rfl
theorem zabi {a b c pos} : starEach (.ListComp a b c pos :: es) env = (false, eval (.ListComp a b c pos) env) :: starEach es env := rfl
end
end L2
namespace L2
open PySem
theorem Ch.own {W : List Addr} {H H' : Hp} {p : Addr} {o : HO} (n : H p = none) (c : Ch W H H') : Ch W H (upd H' p o) := fun b u h k => by
 rw [zaa5 (zabd h n)]
 exact c b u h k
theorem zamo (x : V) (ys : List V) : ¬ (HT.sIx (x :: ys).length 0 (some 1) = 0 ∧ HT.sIx (x :: ys).length (x :: ys).length none = (x :: ys).length) := by
 intro h
 have e : HT.sIx (x :: ys).length 0 (some 1) = 1 := by
  have z := HT.sIx_nat (x :: ys).length 0 1
  rw [List.length_cons] at z ⊢
  refine z.trans ?_
  omega
 rw [e] at h
 exact absurd h.1 (by decide)
end L2
namespace L2
open PySem
theorem Atx.head {α : Type} {x : α} {xs : List α} {R : α → Prop} (r : R x) : Atx (x :: xs) 0 R := ⟨x, zafa (j := 0) rfl, r⟩
end L2

namespace L2
open PySem PySem.Spec PyProof.Rows
inductive SK where
 | list | tuple
def SIt (k : SK) (h : Heap) (it l : Addr) (i : Nat) : Prop := match k with
 | .list => h.IsListIter it l i
 | .tuple => h.IsTupleIter it l i
def SIs (k : SK) (h : Heap) (l : Addr) (items : Array Value) : Prop := match k with
 | .list => h.IsList l items
 | .tuple => h.IsTuple l items
def Sq (k : SK) (K : PySem.W.Frag) (H : Hp) (a : Addr) (xs : List V) : Prop := match k with
 | .list => SqL K H a xs
 | .tuple => SqT K H a xs
theorem SIt.at {k : SK} {h h' : Heap} {a l i} (x : SIt k h a l i) (e : ∀ o, h.get? a = some o → h'.get? a = some o) : SIt k h' a l i := by
 cases k with
 | list => exact Heap.IsListIter.at x e
 | tuple => exact Heap.IsTupleIter.at x e
theorem SIt.obj {k : SK} {h : Heap} {a l i} (x : SIt k h a l i) : ∃ o, h.get? a = some o ∧ ∀ v, o.data ≠ .cell v := by
 cases k with
 | list => obtain ⟨o, e, c, d⟩ := (show h.IsListIter a l i from x); exact ⟨o, e, fun v z => by rw [d] at z; cases z⟩
 | tuple => obtain ⟨o, e, c, d⟩ := (show h.IsTupleIter a l i from x); exact ⟨o, e, fun v z => by rw [d] at z; cases z⟩
theorem SIs.at {k : SK} {h h' : Heap} {a items} (x : SIs k h a items) (e : ∀ o, h.get? a = some o → h'.get? a = some o) : SIs k h' a items := by
 cases k with
 | list => exact Heap.IsList.at x e
 | tuple => obtain ⟨o, ho, r⟩ := (show h.IsTuple a items from x); exact ⟨o, e _ ho, r⟩
theorem SIs.lt {k : SK} {h : Heap} {a items} (x : SIs k h a items) : a < h.objs.size := by
 cases k with
 | list => obtain ⟨_, e, _⟩ := (show h.IsList a items from x); exact Heap.lt_size e
 | tuple => obtain ⟨_, e, _⟩ := (show h.IsTuple a items from x); exact Heap.lt_size e
section
variable {prog : Program} {w : World} {A : Around} {E : Value → Shared → Prop} {s : Shared}
theorem zadp {it l : Addr} {i : Nat} {items} {x : Value} {Q : Value → Shared → Prop} (hit : s.heap.IsTupleIter it l i)
  (hl : s.heap.IsTuple l items) (hx : items[i]? = some x)
  (hQ : ∀ h', h'.IsTupleIter it l (i + 1) → Heap.SameBut it s.heap h' → Q x { s with heap := h' }) :
  wpAny (model prog w) A (Builtin.SmallTypes.nextOf (.ref it)) Q E s := by
 obtain ⟨o, ho, hc, hd⟩ := id hit
 obtain ⟨ol, hol, _, nl, hdl⟩ := hl
 unfold Builtin.SmallTypes.nextOf
 refine wpAny_bind (wpAny_callSpecial?_slot (name := Str.ofString "__next__") hit.typeIs F.slot_tuple_iterator_next
  (wpAny_call_entry F.slot_tuple_iterator_next hit.typeIs F.entry_tuple_iterator_next ?_ (F.args_tuple_iterator_next_1 _)))
 show wpAny _ _ (field (.ref it) 0 >>= _) _ _ s
 refine wpAny_bind (wpAny_field ho hd (x := .ref l) rfl ?_)
 show wpAny _ _ (if (Value.ref l == Value.none) = true then _ else _) _ _ s
 rw [if_neg (show ¬ ((Value.ref l == Value.none) = true) from Bool.false_ne_true)]
 show wpAny _ _ (field (.ref it) 1 >>= _) _ _ s
 refine wpAny_bind (wpAny_field ho hd (x := .int i 0) rfl ?_)
 show wpAny _ _ (seqItems? (.ref l) >>= _) _ _ s
 refine wpAny_bind (wpAny_seqItems hol hdl ?_)
 simp only [Int.toNat_natCast, hx]
 refine wpAny_bind (wpAny_setField ho hd (by simp) (wpAny_pure ⟨x, rfl, wpAny_pure (hQ _ ?_ (Heap.SameBut.update ..))⟩))
 exact ⟨_, Heap.get?_update_self _ ho (Obj.isFreed_of_fields (Obj.data_mapFields hd _)), (Obj.cls_mapFields ..).trans hc, by
  rw [Obj.data_mapFields hd]; simp [rawInt]⟩
theorem zad3 {it l : Addr} {i : Nat} {items} {Q : Value → Shared → Prop} (hh : A.handled = none)
  (hit : s.heap.IsTupleIter it l i) (hl : s.heap.IsTuple l items) (hx : items[i]? = none)
  (hE : ∀ h' e, Heap.ExtBut it s.heap h' → (∃ o, h'.get? e = some o ∧ o.cls = .type "StopIteration") → E (.ref e) { s with heap := h' }) :
  wpAny (model prog w) A (Builtin.SmallTypes.nextOf (.ref it)) Q E s := by
 obtain ⟨o, ho, hc, hd⟩ := id hit
 obtain ⟨ol, hol, _, nl, hdl⟩ := hl
 unfold Builtin.SmallTypes.nextOf
 refine wpAny_bind (wpAny_callSpecial?_slot (name := Str.ofString "__next__") hit.typeIs F.slot_tuple_iterator_next
  (wpAny_call_entry F.slot_tuple_iterator_next hit.typeIs F.entry_tuple_iterator_next ?_ (F.args_tuple_iterator_next_1 _)))
 show wpAny _ _ (field (.ref it) 0 >>= _) _ _ s
 refine wpAny_bind (wpAny_field ho hd (x := .ref l) rfl ?_)
 show wpAny _ _ (if (Value.ref l == Value.none) = true then _ else _) _ _ s
 rw [if_neg (show ¬ ((Value.ref l == Value.none) = true) from Bool.false_ne_true)]
 show wpAny _ _ (field (.ref it) 1 >>= _) _ _ s
 refine wpAny_bind (wpAny_field ho hd (x := .int i 0) rfl ?_)
 show wpAny _ _ (seqItems? (.ref l) >>= _) _ _ s
 refine wpAny_bind (wpAny_seqItems hol hdl ?_)
 simp only [Int.toNat_natCast, hx]
 refine wpAny_bind (wpAny_rule (wpAny_bind (wpAny_setField ho hd (by simp) ?_)))
 show wpAny _ _ (newExc (.type "StopIteration") [] >>= _) _ _ _
 refine wpAny_bind ?_
 simp only [newExc, newTuple]
 refine wpAny_bind (wpAny_newObj_type ?_ (by size_fits))
 refine wpAny_bind (m := firstArgMember _ _) (wpAny_of_eq (a := Value.none) (by first | rfl | (simp only [firstArgMember]; rfl)) ?_)
 refine wpAny_newObj_type ?_ (by size_fits)
 simp only [raiseNew]
 refine wpAny_bind (wpAny_handled ?_)
 first | rw [show A.in1.handled = none from hh] | rw [hh]
 refine wpAny_bind (wpAny_pure (wpAny_throw ?_))
 exact hE _ _ (((Heap.SameBut.update ..).extBut.push _).push _) ⟨_, Heap.get?_push_size _ rfl, rfl⟩
theorem zade {k : SK} {it l : Addr} {i : Nat} {items} {x : Value} {Q : Value → Shared → Prop} (hit : SIt k s.heap it l i) (hl : SIs k s.heap l items) (hx : items[i]? = some x)
  (hQ : ∀ h', SIt k h' it l (i + 1) → Heap.SameBut it s.heap h' → Q x { s with heap := h' }) : wpAny (model prog w) A (Builtin.SmallTypes.nextOf (.ref it)) Q E s := by
 cases k with
 | list => exact wpAny_nextOf_list_item hit hl hx hQ
 | tuple => exact zadp hit hl hx hQ
theorem zaew {k : SK} {it l : Addr} {i : Nat} {items} {Q : Value → Shared → Prop} (hh : A.handled = none) (hit : SIt k s.heap it l i) (hl : SIs k s.heap l items) (hx : items[i]? = none)
  (hE : ∀ h' e, Heap.ExtBut it s.heap h' → (∃ o, h'.get? e = some o ∧ o.cls = .type "StopIteration") → E (.ref e) { s with heap := h' }) :
  wpAny (model prog w) A (Builtin.SmallTypes.nextOf (.ref it)) Q E s := by
 cases k with
 | list => exact wpAny_nextOf_list_end hh hit hl hx hE
 | tuple => exact zad3 hh hit hl hx hE
theorem SIt.ext {k : SK} {h h' : Heap} {a b l i} (x : SIt k h a l i) (hs : Heap.ExtBut b h h') (hab : a ≠ b) : SIt k h' a l i := x.at fun o e => hs _ _ hab e
theorem SIs.ext {k : SK} {h h' : Heap} {a b items} (x : SIs k h a items) (hs : Heap.ExtBut b h h') (hab : a ≠ b) : SIs k h' a items := x.at fun o e => hs _ _ hab e
theorem zajt {k1 k2 : SK} {z TI TO i1 i2 l1 l2 : Addr} {n1 n2 : Nat} {xs ys : Array Value} {x y a b : Value} {Q : Value → Shared → Prop} (D : ZipApart z TI TO i1 i2 l1 l2)
  (hz : IsZip s.heap z TI TO .none) (hTI : IsPair s.heap TI (.ref i1) (.ref i2)) (hTO : IsPair s.heap TO a b)
  (h1 : SIt k1 s.heap i1 l1 n1) (h2 : SIt k2 s.heap i2 l2 n2) (hl1 : SIs k1 s.heap l1 xs) (hl2 : SIs k2 s.heap l2 ys) (hx : xs[n1]? = some x) (hy : ys[n2]? = some y)
  (hQ : ∀ h', IsZip h' z TI TO (rawInt s.heap.objs.size) → IsPair h' TO x y → SIt k1 h' i1 l1 (n1 + 1) → SIt k2 h' i2 l2 (n2 + 1) → IsPair h' s.heap.objs.size x y → h'.objs.size = s.heap.objs.size + 1 →
   (∀ c o, c ≠ z → c ≠ TO → c ≠ i1 → c ≠ i2 → s.heap.get? c = some o → h'.get? c = some o) → Q (.ref s.heap.objs.size) { s with heap := h' }) :
  wpAny (model prog w) A (Builtin.«zip.__next__» ⟨[.ref z], []⟩) (fun fin s' => ∃ v, fin = .done (.ret v) ∧ Q v s') E s := by
 show wpAny _ _ (field (.ref z) 2 >>= _) _ _ _
 refine wpAny_bind (wpAny_field hz rfl (x := .bool false) rfl ?_)
 show wpAny _ _ (field (.ref z) 3 >>= _) _ _ _
 refine wpAny_bind (wpAny_field hz rfl (x := .ref TI) rfl ?_)
 refine wpAny_bind (wpAny_seqItems hTI rfl ?_)
 show wpAny _ _ (Builtin.SmallTypes.ownedTupleIsFree (.ref z) >>= _) _ _ _
 refine wpAny_bind ?_
 unfold Builtin.SmallTypes.ownedTupleIsFree
 refine wpAny_bind (wpAny_field hz rfl (x := .none) rfl (wpAny_pure ?_))
 simp only [if_true]
 refine wpAny_bind (wpAny_rule ?_)
 refine wpAny_bind (wpAny_field hz rfl (x := .ref TO) rfl ?_)
 refine wpAny_bind (wpAny_setField_rec hz (by simp) fun h₁ hz₁ hs₁ => ?_)
 replace hz₁ : IsZip h₁ z TI TO .ellipsis := hz₁
 refine wpAny_bind ?_
 simp only [List.zipIdx_cons, List.zipIdx_nil, List.forIn_cons, List.forIn_nil]
 refine wpAny_bind (wpAny_bind (wpAny_onRaise ?_))
 show wpAny _ _ (Builtin.SmallTypes.nextOf (.ref i1) >>= _) _ _ _
 refine wpAny_bind (zade (h1.ext hs₁.extBut D.i1z) (hl1.ext hs₁.extBut D.l1z) hx fun h₂ h1₂ hs₂ => wpAny_pure ?_)
 have hTO₂ : IsPair h₂ TO a b := hs₂.extBut _ _ D.TOi1 (hs₁.extBut _ _ D.TOz hTO)
 refine wpAny_bind (wpAny_seqItems hTO₂ rfl ?_)
 refine wpAny_bind (wpAny_updateSeq_pair hTO₂ fun h₃ hTO₃ hs₃ => ?_)
 replace hTO₃ : IsPair h₃ TO x b := hTO₃
 refine wpAny_bind (wpAny_letGo (wpAny_pure ?_))
 refine wpAny_bind (wpAny_bind (wpAny_onRaise ?_))
 show wpAny _ _ (Builtin.SmallTypes.nextOf (.ref i2) >>= _) _ _ _
 refine wpAny_bind (zade (((h2.ext hs₁.extBut D.i2z).ext hs₂.extBut D.i12.symm).ext hs₃.extBut D.TOi2.symm)
  (((hl2.ext hs₁.extBut D.l2z).ext hs₂.extBut D.l2i1).ext hs₃.extBut D.l2TO) hy fun h₄ h2₄ hs₄ => wpAny_pure ?_)
 have hTO₄ : IsPair h₄ TO x b := hs₄.extBut _ _ D.TOi2 hTO₃
 refine wpAny_bind (wpAny_seqItems hTO₄ rfl ?_)
 refine wpAny_bind (wpAny_updateSeq_pair hTO₄ fun h₅ hTO₅ hs₅ => ?_)
 replace hTO₅ : IsPair h₅ TO x y := hTO₅
 refine wpAny_bind (wpAny_letGo (wpAny_pure (wpAny_pure ?_)))
 refine wpAny_bind (wpAny_seqItems hTO₅ rfl ?_)
 refine wpAny_bind (wpAny_newTuple ?_)
 have hsz : h₅.objs.size = s.heap.objs.size := by rw [hs₅.1, hs₄.1, hs₃.1, hs₂.1, hs₁.1]
 have hz₅ : IsZip h₅ z TI TO .ellipsis := hs₅.extBut _ _ D.TOz.symm (hs₄.extBut _ _ D.i2z.symm (hs₃.extBut _ _ D.TOz.symm (hs₂.extBut _ _ D.i1z.symm hz₁)))
 have hk₅ : ∀ c o, c ≠ z → c ≠ TO → c ≠ i1 → c ≠ i2 → s.heap.get? c = some o → h₅.get? c = some o := fun c o c1 c2 c3 c4 e =>
  hs₅.extBut _ _ c2 (hs₄.extBut _ _ c4 (hs₃.extBut _ _ c2 (hs₂.extBut _ _ c3 (hs₁.extBut _ _ c1 e))))
 have h1₅ : SIt k1 h₅ i1 l1 (n1 + 1) := ((h1₂.ext hs₃.extBut D.TOi1.symm).ext hs₄.extBut D.i12).ext hs₅.extBut D.TOi1.symm
 have h2₅ : SIt k2 h₅ i2 l2 (n2 + 1) := h2₄.ext hs₅.extBut D.TOi2.symm
 have hzlt : z < h₅.objs.size := Heap.lt_size hz₅
 show wpAny _ _ (Builtin.SmallTypes.ownedTupleHandOut (.ref z) (.ref h₅.objs.size) >>= _) _ _ _
 refine wpAny_bind ?_
 unfold Builtin.SmallTypes.ownedTupleHandOut
 have hz₆ : IsZip (h₅.push { cls := .type "tuple", data := .seq #[x, y] }) z TI TO .ellipsis := Heap.get?_push_of_some _ hz₅
 refine wpAny_bind (wpAny_setField_rec hz₆ (by simp) fun h₇ hz₇ hs₇ => ?_)
 replace hz₇ : IsZip h₇ z TI TO (rawInt h₅.objs.size) := hz₇
 refine wpAny_setField_rec hz₇ (by simp) fun h₈ hz₈ hs₈ => ?_
 replace hz₈ : IsZip h₈ z TI TO (rawInt h₅.objs.size) := hz₈
 have up : ∀ c o, c ≠ z → h₅.get? c = some o → h₈.get? c = some o := fun c o c1 e => hs₈.extBut _ _ c1 (hs₇.extBut _ _ c1 (Heap.get?_push_of_some _ e))
 have hT₈ : IsPair h₈ h₅.objs.size x y := hs₈.extBut _ _ (Nat.ne_of_gt hzlt) (hs₇.extBut _ _ (Nat.ne_of_gt hzlt) (Heap.get?_push_size _ rfl))
 have hz8 : h₈.objs.size = h₅.objs.size + 1 := by rw [hs₈.1, hs₇.1, Heap.size_push]
 rw [hsz] at hz₈ hT₈ hz8
 refine wpAny_pure ⟨_, rfl, ?_⟩
 show Q (.ref h₅.objs.size) _
 rw [hsz]
 exact hQ h₈ hz₈ (up _ _ D.TOz hTO₅) (h1₅.at fun o e => up _ o D.i1z e) (h2₅.at fun o e => up _ o D.i2z e) hT₈ hz8 fun c o c1 c2 c3 c4 e => up c o c1 (hk₅ c o c1 c2 c3 c4 e)
theorem zamp {k1 k2 : SK} {z TI TO i1 i2 l1 l2 : Addr} {n1 n2 : Nat} {xs ys : Array Value} {a b : Value} {Q : Fin → Shared → Prop} (hh : A.handled = none) (D : ZipApart z TI TO i1 i2 l1 l2)
  (hz : IsZip s.heap z TI TO .none) (hTI : IsPair s.heap TI (.ref i1) (.ref i2)) (hTO : IsPair s.heap TO a b)
  (h1 : SIt k1 s.heap i1 l1 n1) (h2 : SIt k2 s.heap i2 l2 n2) (hl1 : SIs k1 s.heap l1 xs) (hl2 : SIs k2 s.heap l2 ys) (hend : xs[n1]? = none ∨ ys[n2]? = none)
  (hE : ∀ h' e, (∀ c o, c ≠ z → c ≠ TO → c ≠ i1 → c ≠ i2 → s.heap.get? c = some o → h'.get? c = some o) → (∃ o, h'.get? e = some o ∧ o.cls = .type "StopIteration") → E (.ref e) { s with heap := h' }) :
  wpAny (model prog w) A (Builtin.«zip.__next__» ⟨[.ref z], []⟩) Q E s := by
 show wpAny _ _ (field (.ref z) 2 >>= _) _ _ _
 refine wpAny_bind (wpAny_field hz rfl (x := .bool false) rfl ?_)
 show wpAny _ _ (field (.ref z) 3 >>= _) _ _ _
 refine wpAny_bind (wpAny_field hz rfl (x := .ref TI) rfl ?_)
 refine wpAny_bind (wpAny_seqItems hTI rfl ?_)
 show wpAny _ _ (Builtin.SmallTypes.ownedTupleIsFree (.ref z) >>= _) _ _ _
 refine wpAny_bind ?_
 unfold Builtin.SmallTypes.ownedTupleIsFree
 refine wpAny_bind (wpAny_field hz rfl (x := .none) rfl (wpAny_pure ?_))
 simp only [if_true]
 refine wpAny_bind (wpAny_rule ?_)
 refine wpAny_bind (wpAny_field hz rfl (x := .ref TO) rfl ?_)
 refine wpAny_bind (wpAny_setField_rec hz (by simp) fun h₁ hz₁ hs₁ => ?_)
 replace hz₁ : IsZip h₁ z TI TO .ellipsis := hz₁
 refine wpAny_bind ?_
 simp only [List.zipIdx_cons, List.zipIdx_nil, List.forIn_cons, List.forIn_nil]
 refine wpAny_bind (wpAny_bind (wpAny_onRaise ?_))
 show wpAny _ _ (Builtin.SmallTypes.nextOf (.ref i1) >>= _) _ _ _
 cases hx : xs[n1]? with
 | none =>
  refine wpAny_bind (zaew hh (h1.ext hs₁.extBut D.i1z) (hl1.ext hs₁.extBut D.l1z) hx fun h₂ e hs₂ he => ?_)
  obtain ⟨oe, hoe, hce⟩ := he
  have hz₂ : IsZip h₂ z TI TO .ellipsis := hs₂ _ _ D.i1z.symm hz₁
  have hez : e ≠ z := fun x => by subst x; rw [hz₂] at hoe; cases hoe; simp at hce
  refine wpAny_setField_rec hz₂ (by simp) fun h₃ _ hs₃ => hE h₃ e (fun c o c1 _ c3 _ x => hs₃.extBut _ _ c1 (hs₂ _ _ c3 (hs₁.extBut _ _ c1 x))) ⟨oe, hs₃.extBut _ _ hez hoe, hce⟩
 | some x =>
  have hy : ys[n2]? = none := by rcases hend with h | h; rw [hx] at h; cases h; exact h
  refine wpAny_bind (zade (h1.ext hs₁.extBut D.i1z) (hl1.ext hs₁.extBut D.l1z) hx fun h₂ h1₂ hs₂ => wpAny_pure ?_)
  have hTO₂ : IsPair h₂ TO a b := hs₂.extBut _ _ D.TOi1 (hs₁.extBut _ _ D.TOz hTO)
  refine wpAny_bind (wpAny_seqItems hTO₂ rfl ?_)
  refine wpAny_bind (wpAny_updateSeq_pair hTO₂ fun h₃ hTO₃ hs₃ => ?_)
  refine wpAny_bind (wpAny_letGo (wpAny_pure ?_))
  refine wpAny_bind (wpAny_bind (wpAny_onRaise ?_))
  show wpAny _ _ (Builtin.SmallTypes.nextOf (.ref i2) >>= _) _ _ _
  refine wpAny_bind (zaew hh (((h2.ext hs₁.extBut D.i2z).ext hs₂.extBut D.i12.symm).ext hs₃.extBut D.TOi2.symm)
   (((hl2.ext hs₁.extBut D.l2z).ext hs₂.extBut D.l2i1).ext hs₃.extBut D.l2TO) hy fun h₄ e hs₄ he => ?_)
  obtain ⟨oe, hoe, hce⟩ := he
  have hz₄ : IsZip h₄ z TI TO .ellipsis := hs₄ _ _ D.i2z.symm (hs₃.extBut _ _ D.TOz.symm (hs₂.extBut _ _ D.i1z.symm hz₁))
  have hez : e ≠ z := fun x => by subst x; rw [hz₄] at hoe; cases hoe; simp at hce
  refine wpAny_setField_rec hz₄ (by simp) fun h₅ _ hs₅ => hE h₅ e (fun c o c1 c2 c3 c4 x => hs₅.extBut _ _ c1 (hs₄ _ _ c4 (hs₃.extBut _ _ c2 (hs₂.extBut _ _ c3 (hs₁.extBut _ _ c1 x))))) ⟨oe, hs₅.extBut _ _ hez hoe, hce⟩
end
section
variable {X : Cx} {pins : List (Addr × Obj)} {σ : List (Option V)} {H H' : Hp} {s : Shared} {h' : Heap}
theorem Inv.turnedL {t' : Nat} {its : List Addr} (I : Inv X pins σ H s) (k : ∀ b o, b ∉ its → s.heap.get? b = some o → h'.get? b = some o) (hf : ∀ b ∈ its, FpOk X pins H b) : Inv X pins σ H { s with heap := h', toks := t' } := by
 have nit : ∀ b u, H b = some u → b ∉ its := fun b u e z => by rw [(hf b z).1] at e; cases e
 refine I.step (g' := s.gens) (d' := s.drawn) (ch := its) (fun b hb => ?_) (fun b o _ _ hc e _ => k b o hc e) (fun b o _ _ hc e _ => ⟨o.slots, k b o hc e⟩) (fun _ _ _ _ n => n)
  (fun b o hc e => ⟨o, k b o hc e⟩) (fun _ _ e => e) (fun _ _ _ e => e) (fun b ps e => ⟨#[], by rw [e]; simp⟩) (fun m hm => ?_) (fun b u e => ?_) I.bare
 ·obtain ⟨f0, f1, f2, f3, f4, f5⟩ := hf b hb
  exact ⟨f3, f1, f4, f5⟩
 ·obtain ⟨o, es, ep, ho, r⟩ := hm
  exact ⟨o, es, ep, k _ o (fun z => (hf _ z).2.1 rfl) ho, r⟩
 ·refine (I.hok b u e).stay (fun c v hc q => k c v ?_ q) (fun _ q => q) fun _ _ q => q
  rcases hc with z | z
  ·rw [z]; exact nit b u e
  ·exact nit c _ z
theorem Inv.turnedNew {t' : Nat} {its : List Addr} {T : Addr} {o : HO} (I : Inv X pins σ H s) (k : ∀ b ob, b ∉ its → s.heap.get? b = some ob → h'.get? b = some ob) (hf : ∀ b ∈ its, FpOk X pins H b)
  (hT : s.heap.objs.size ≤ T) (new : ObjOk X.prog X.w (upd H T o) h' T o) : Inv X pins σ (upd H T o) { s with heap := h', toks := t' } := by
 have nit : ∀ b u, H b = some u → b ∉ its := fun b u e z => by rw [(hf b z).1] at e; cases e
 have hn : H T = none := I.hok.fresh hT
 have neT : ∀ b ob, s.heap.get? b = some ob → b ≠ T := fun b ob e => Nat.ne_of_lt (Nat.lt_of_lt_of_le (Heap.lt_size e) hT)
 have up : ∀ b u, H b = some u → upd H T o b = some u := fun b u e => by rw [zaa5 (zabd e hn)]; exact e
 refine I.step (g' := s.gens) (d' := s.drawn) (ch := its) (fun b hb => ?_) (fun b ob _ _ hc e _ => k b ob hc e) (fun b ob _ _ hc e _ => ⟨ob.slots, k b ob hc e⟩) (fun b ob _ e n => by rw [zaa5 (neT b ob e)]; exact n)
  (fun b ob hc e => ⟨ob, k b ob hc e⟩) (fun b _ e => up b _ e) (fun b _ _ e => up b _ e) (fun b ps e => ⟨#[], by rw [up b _ e]; simp⟩) (fun m hm => ?_) (fun b u e => ?_) I.bare
 ·obtain ⟨f0, f1, f2, f3, f4, f5⟩ := hf b hb
  exact ⟨f3, f1, f4, f5⟩
 ·obtain ⟨ob, es, ep, ho, r⟩ := hm
  exact ⟨ob, es, ep, k _ ob (fun z => (hf _ z).2.1 rfl) ho, r⟩
 ·by_cases hb : b = T
  ·subst hb; rw [zaal] at e; cases e; exact new
  ·rw [zaa5 hb] at e
   refine (I.hok b u e).stay (fun c v hc q => k c v ?_ q) (fun c q => up c _ q) fun c xs q => up c _ q
   rcases hc with z | z
   ·rw [z]; exact nit b u e
   ·exact nit c _ z
end
theorem Inv.sis {X : Cx} {pins : List (Addr × Obj)} {σ : St} {H : Hp} {s : Shared} {k : SK} {a : Addr} {xs : List V} (I : Inv X pins σ H s) (h : Sq k X.K H a xs) : ∃ its : List Value, Vals xs its ∧ SIs k s.heap a its.toArray := by
 cases k with
 | list => obtain ⟨its, r, p, _⟩ := I.list h; exact ⟨its, r, p.isList⟩
 | tuple => obtain ⟨its, r, p, _⟩ := I.tuple h; exact ⟨its, r, (show s.heap.IsTuple a its.toArray from p)⟩
theorem Inv.sq_inj {X : Cx} {pins : List (Addr × Obj)} {σ : St} {H : Hp} {s : Shared} {k : SK} {a : Addr} {xs ys : List V} (I : Inv X pins σ H s) (h : Sq k X.K H a xs) (h' : Sq k X.K H a ys) : xs = ys := by
 cases k with
 | list => exact I.list_inj h h'
 | tuple => exact I.tuple_inj h h'
def Itz (K : PySem.W.Frag) (k1 k2 : SK) (a b : Addr) : It :=
 ⟨fun i H => ∃ xs ys x y, Sq k1 K H a xs ∧ Sq k2 K H b ys ∧ xs[i]? = some x ∧ ys[i]? = some y,
  fun i H v H' => ∃ T, H T = none ∧ v = .ref T ∧ ∀ xs ys, Sq k1 K H a xs → Sq k2 K H b ys → ∃ x y, xs[i]? = some x ∧ ys[i]? = some y ∧ H' = upd H T (.tup [x, y]),
  fun i H => ∃ xs ys, Sq k1 K H a xs ∧ Sq k2 K H b ys ∧ (xs.length ≤ i ∨ ys.length ≤ i)⟩
theorem zamq {P : Program} {w : World} {K : PySem.W.Frag} {elts : List Expr} {kk : Nat} {tpos : Pos} {k1 k2 : SK} {z TI TO i1 i2 a b : Addr} (D : ZipApart z TI TO i1 i2 a b) :
  Turn P w K (.Tuple elts kk tpos) (Itz K k1 k2 a b) [z, TI, TO, i1, i2] z (fun i h => IsZip h z TI TO .none ∧ IsPair h TI (.ref i1) (.ref i2) ∧ (∃ c d, IsPair h TO c d) ∧ SIt k1 h i1 a i ∧ SIt k2 h i2 b i) where
 mem := by simp
 obj := fun i h st b hb => by
  obtain ⟨hz, hTI, ⟨c, d, hTO⟩, h1, h2⟩ := st
  simp only [List.mem_cons, List.not_mem_nil, or_false] at hb
  rcases hb with rfl | rfl | rfl | rfl | rfl
  ·exact ⟨_, hz, fun v q => nomatch q⟩
  ·exact ⟨_, hTI, fun v q => nomatch q⟩
  ·exact ⟨_, hTO, fun v q => nomatch q⟩
  ·exact h1.obj
  ·exact h2.obj
 keep := fun i h h' st k => by
  obtain ⟨hz, hTI, ⟨c, d, hTO⟩, h1, h2⟩ := st
  exact ⟨k _ (by simp) _ hz, k _ (by simp) _ hTI, ⟨c, d, k _ (by simp) _ hTO⟩, h1.at fun o e => k _ (by simp) o e, h2.at fun o e => k _ (by simp) o e⟩
 item := by
  intro X hP hw hK hc i pins s σ H E I hf st hg
  subst hP hw hK
  obtain ⟨hz, hTI, ⟨c, d, hTO⟩, h1, h2⟩ := st
  obtain ⟨xs, ys, x, y, q1, q2, hx, hy⟩ := hg
  obtain ⟨ix, rx, px⟩ := I.sis q1
  obtain ⟨iy, ry, py⟩ := I.sis q2
  obtain ⟨u, hu, ru⟩ := rx.get hx
  obtain ⟨v, hv, rv⟩ := ry.get hy
  have hT : s.TypeIs (.ref z) "zip" := ⟨_, hz, rfl⟩
  unfold pyNext
  refine wpAny_bind (wpAny_attempt (wpAny_callSpecial?_slot (name := Str.ofString "__next__") hT F.slot_zip_next
   (wpAny_call_entry F.slot_zip_next hT F.entry_zip_next
    (zajt D hz hTI hTO h1 h2 px py (x := u) (y := v) (by simpa using hu) (by simpa using hv) fun h' a1 a2 a3 a4 a5 a6 a7 => wpAny_pure ?_) (F.args_zip_next_1 _))))
  refine ⟨_, rfl, wpAny_letOwnedTupleGo_zip (s := { s with heap := h' }) a1 fun h'' b1 b2 => ?_⟩
  have zlt : z < s.heap.objs.size := Heap.lt_size hz
  have k2 : ∀ c o, c ∉ [z, TI, TO, i1, i2] → s.heap.get? c = some o → h''.get? c = some o := fun c o hc e => by
   simp only [List.mem_cons, List.not_mem_nil, or_false, not_or] at hc
   exact b2.extBut _ _ hc.1 (a7 c o hc.1 hc.2.2.1 hc.2.2.2.1 hc.2.2.2.2 e)
  have hT2 : IsPair h'' s.heap.objs.size u v := b2.extBut _ _ (Nat.ne_of_gt zlt) a5
  refine ⟨.ref s.heap.objs.size, upd H s.heap.objs.size (.tup [x, y]), I.turnedNew (t' := s.toks) (o := .tup [x, y]) k2 hf (Nat.le_refl _) ⟨by show 2 ≤ sizeLine; decide, [u, v], .cons ru (.cons rv .nil), ⟨_, hT2, rfl, _, rfl⟩⟩, rfl,
   ⟨_, I.hok.fresh (Nat.le_refl _), rfl, fun xs' ys' e1 e2 => ?_⟩, ⟨b1, ?_, ⟨_, _, b2.extBut _ _ D.TOz a2⟩, a3.at fun o e => b2.extBut _ _ D.i1z e, a4.at fun o e => b2.extBut _ _ D.i2z e⟩, fun b hb => ?_⟩
  ·rw [I.sq_inj e1 q1, I.sq_inj e2 q2]
   exact ⟨x, y, hx, hy, rfl⟩
  ·exact b2.extBut _ _ D.TIz (a7 _ _ D.TIz D.TITO D.TIi1 D.TIi2 hTI)
  ·have blt : b < s.heap.objs.size := by
    simp only [List.mem_cons, List.not_mem_nil, or_false] at hb
    rcases hb with rfl | rfl | rfl | rfl | rfl
    ·exact zlt
    ·exact Heap.lt_size hTI
    ·exact Heap.lt_size hTO
    ·obtain ⟨o, e, _⟩ := h1.obj; exact Heap.lt_size e
    ·obtain ⟨o, e, _⟩ := h2.obj; exact Heap.lt_size e
   rw [zaa5 (Nat.ne_of_lt blt)]
   exact (hf b hb).1
 done := by
  intro X hP hw hK hc i pins s σ H E I hf st hg
  subst hP hw hK
  obtain ⟨hz, hTI, ⟨c, d, hTO⟩, h1, h2⟩ := st
  obtain ⟨xs, ys, q1, q2, hl⟩ := hg
  obtain ⟨ix, rx, px⟩ := I.sis q1
  obtain ⟨iy, ry, py⟩ := I.sis q2
  have l1 := rx.length
  have l2 := ry.length
  have hend : ix.toArray[i]? = none ∨ iy.toArray[i]? = none := by
   rcases hl with h | h
   ·exact .inl (by simp; omega)
   ·exact .inr (by simp; omega)
  have hT : s.TypeIs (.ref z) "zip" := ⟨_, hz, rfl⟩
  unfold pyNext
  refine wpAny_bind (wpAny_attempt (wpAny_callSpecial?_slot (name := Str.ofString "__next__") hT F.slot_zip_next
   (wpAny_call_entry F.slot_zip_next hT F.entry_zip_next (zamp (I.ok.hd hc) D hz hTI hTO h1 h2 px py hend fun h' e hk he => ?_) (F.args_zip_next_1 _))))
  obtain ⟨o, ho, hc'⟩ := he
  refine wpAny_bind (wpAny_isInstance (T := "StopIteration") (b := true) ⟨o, ho, hc'⟩ isSubtype_stop ?_)
  refine wpAny_pure ⟨rfl, I.turnedL (t' := s.toks) (its := [z, TI, TO, i1, i2]) (fun b o hb e => ?_) hf⟩
  simp only [List.mem_cons, List.not_mem_nil, or_false, not_or] at hb
  exact hk b o hb.1 hb.2.2.1 hb.2.2.2.1 hb.2.2.2.2 e
 self := fun _ _ _ _ _ st h => wpAny_pyIter_zip st.1 h
def itObj (k : SK) (l : Addr) : Obj := match k with
 | .list => { cls := .type "list_iterator", data := .fields #[.ref l, .int 0 0] }
 | .tuple => { cls := .type "tuple_iterator", data := .fields #[.ref l, .int 0 0] }
theorem zah7 {k : SK} {l it : Addr} {h : Heap} (e : h.get? it = some (itObj k l)) : SIt k h it l 0 := by
 cases k with
 | list => exact ⟨_, e, rfl, rfl⟩
 | tuple => exact ⟨_, e, rfl, rfl⟩
abbrev zS1 (h : Heap) (k1 : SK) (l1 : Addr) : Heap := h.push (itObj k1 l1)
abbrev zS2 (h : Heap) (k1 k2 : SK) (l1 l2 : Addr) : Heap := (zS1 h k1 l1).push (itObj k2 l2)
abbrev zS3 (h : Heap) (k1 k2 : SK) (l1 l2 : Addr) : Heap := (zS2 h k1 k2 l1 l2).push { cls := .type "tuple", data := .seq #[.ref h.objs.size, .ref (zS1 h k1 l1).objs.size] }
abbrev zS4 (h : Heap) (k1 k2 : SK) (l1 l2 : Addr) : Heap := (zS3 h k1 k2 l1 l2).push { cls := .type "tuple", data := .seq #[.none, .none] }
abbrev zS5 (h : Heap) (k1 k2 : SK) (l1 l2 : Addr) : Heap := (zS4 h k1 k2 l1 l2).push { cls := .type "zip", data := .fields #[.none, .bool false, .bool false, .ref (zS2 h k1 k2 l1 l2).objs.size, .ref (zS3 h k1 k2 l1 l2).objs.size] }
set_option maxHeartbeats 4000000 in
theorem zaeq (k1 k2 : SK) (l1 l2 : Addr) (xs ys : Array Value) :
  Meets (Builtin.«zip.__new__» ⟨[.type "zip", .ref l1, .ref l2], []⟩) (fun _ R s => SIs k1 s.heap l1 xs ∧ SIs k2 s.heap l2 ys ∧
   R (.ok (.ret (.ref (zS4 s.heap k1 k2 l1 l2).objs.size))) { s with heap := zS5 s.heap k1 k2 l1 l2 }) := by
 cases k1 with
 | list =>
  cases k2 with
  | list =>
   exact .of_wp fun prog w A R s h => by
    obtain ⟨hp, g, d, tk, os⟩ := s; obtain ⟨hl1, hl2, h⟩ := h
    have hsub := sub_zip
    have hL1 : Heap.IsList (Shared.heap ⟨hp, g, d, tk, os⟩) l1 xs := hl1
    have hL2 : Heap.IsList (Shared.heap ⟨hp.push { cls := .type "list_iterator", data := .fields #[.ref l1, .int 0 0] }, g, d, tk, os⟩) l2 ys := Heap.IsList.push hl2 _
    wp_walk using wpAny_pyIter_list hL1, wpAny_pyIter_list hL2
    exact ⟨_, rfl, h⟩
  | tuple =>
   exact .of_wp fun prog w A R s h => by
    obtain ⟨hp, g, d, tk, os⟩ := s; obtain ⟨hl1, hl2, h⟩ := h
    have hsub := sub_zip
    have hL1 : Heap.IsList (Shared.heap ⟨hp, g, d, tk, os⟩) l1 xs := hl1
    have hL2 : Heap.IsTuple (Shared.heap ⟨hp.push { cls := .type "list_iterator", data := .fields #[.ref l1, .int 0 0] }, g, d, tk, os⟩) l2 ys := SIs.at (k := .tuple) hl2 fun o e => Heap.get?_push_of_some _ e
    wp_walk using wpAny_pyIter_list hL1, wpAny_pyIter_tuple hL2
    exact ⟨_, rfl, h⟩
 | tuple =>
  cases k2 with
  | list =>
   exact .of_wp fun prog w A R s h => by
    obtain ⟨hp, g, d, tk, os⟩ := s; obtain ⟨hl1, hl2, h⟩ := h
    have hsub := sub_zip
    have hL1 : Heap.IsTuple (Shared.heap ⟨hp, g, d, tk, os⟩) l1 xs := hl1
    have hL2 : Heap.IsList (Shared.heap ⟨hp.push { cls := .type "tuple_iterator", data := .fields #[.ref l1, .int 0 0] }, g, d, tk, os⟩) l2 ys := SIs.at (k := .list) hl2 fun o e => Heap.get?_push_of_some _ e
    wp_walk using wpAny_pyIter_tuple hL1, wpAny_pyIter_list hL2
    exact ⟨_, rfl, h⟩
  | tuple =>
   exact .of_wp fun prog w A R s h => by
    obtain ⟨hp, g, d, tk, os⟩ := s; obtain ⟨hl1, hl2, h⟩ := h
    have hsub := sub_zip
    have hL1 : Heap.IsTuple (Shared.heap ⟨hp, g, d, tk, os⟩) l1 xs := hl1
    have hL2 : Heap.IsTuple (Shared.heap ⟨hp.push { cls := .type "tuple_iterator", data := .fields #[.ref l1, .int 0 0] }, g, d, tk, os⟩) l2 ys := SIs.at (k := .tuple) hl2 fun o e => Heap.get?_push_of_some _ e
    wp_walk using wpAny_pyIter_tuple hL1, wpAny_pyIter_tuple hL2
    exact ⟨_, rfl, h⟩
section
variable {prog : Program} {w : World} {A : Around} {E : Value → Shared → Prop} {s : Shared}
theorem zaju {k1 k2 : SK} {l1 l2 : Addr} {xs ys : Array Value} {Q : Value → Shared → Prop} (hl1 : SIs k1 s.heap l1 xs) (hl2 : SIs k2 s.heap l2 ys)
  (h : ∀ h', IsZip h' (s.heap.objs.size + 4) (s.heap.objs.size + 2) (s.heap.objs.size + 3) .none → IsPair h' (s.heap.objs.size + 2) (.ref s.heap.objs.size) (.ref (s.heap.objs.size + 1)) →
   IsPair h' (s.heap.objs.size + 3) .none .none → SIt k1 h' s.heap.objs.size l1 0 → SIt k2 h' (s.heap.objs.size + 1) l2 0 →
   (∀ c o, s.heap.get? c = some o → h'.get? c = some o) → Q (.ref (s.heap.objs.size + 4)) { s with heap := h' }) :
  wpAny (model prog w) A (call (.type "zip") [.ref l1, .ref l2]) Q E s := by
 refine callType_new F.called_zip (by decide) (F.typeCall_zip_2 _ _) (F.newCall_zip_2 _ _) (fun obj => F.args_object_init_3 obj _ _) F.entry_zip_new
  (zaeq k1 k2 l1 l2 xs ys) ⟨hl1, hl2, ?_⟩
 have z1 : (zS1 s.heap k1 l1).objs.size = s.heap.objs.size + 1 := Heap.size_push ..
 have z2 : (zS2 s.heap k1 k2 l1 l2).objs.size = s.heap.objs.size + 2 := by rw [Heap.size_push, z1]
 have z3 : (zS3 s.heap k1 k2 l1 l2).objs.size = s.heap.objs.size + 3 := by rw [Heap.size_push, z2]
 have z4 : (zS4 s.heap k1 k2 l1 l2).objs.size = s.heap.objs.size + 4 := by rw [Heap.size_push, z3]
 have r1 : (itObj k1 l1).isFreed = false := by cases k1 <;> rfl
 have r2 : (itObj k2 l2).isFreed = false := by cases k2 <;> rfl
 have g5 : (zS5 s.heap k1 k2 l1 l2).get? (zS4 s.heap k1 k2 l1 l2).objs.size = some _ := Heap.get?_push_size _ rfl
 have g4 : (zS5 s.heap k1 k2 l1 l2).get? (zS3 s.heap k1 k2 l1 l2).objs.size = some _ := Heap.get?_push_of_some _ (Heap.get?_push_size _ rfl)
 have g3 : (zS5 s.heap k1 k2 l1 l2).get? (zS2 s.heap k1 k2 l1 l2).objs.size = some _ := Heap.get?_push_of_some _ (Heap.get?_push_of_some _ (Heap.get?_push_size _ rfl))
 have g2 : (zS5 s.heap k1 k2 l1 l2).get? (zS1 s.heap k1 l1).objs.size = some _ := Heap.get?_push_of_some _ (Heap.get?_push_of_some _ (Heap.get?_push_of_some _ (Heap.get?_push_size _ r2)))
 have g1 : (zS5 s.heap k1 k2 l1 l2).get? s.heap.objs.size = some _ := Heap.get?_push_of_some _ (Heap.get?_push_of_some _ (Heap.get?_push_of_some _ (Heap.get?_push_of_some _ (Heap.get?_push_size _ r1))))
 show _ ∧ _
 rw [z2, z3, z4] at g5
 rw [z1, z2] at g3
 rw [z3] at g4
 rw [z1] at g2
 rw [z4]
 exact ⟨⟨_, g5, rfl⟩, h _ g5 g3 g4 (zah7 g1) (zah7 g2) fun c o x =>
  Heap.get?_push_of_some _ (Heap.get?_push_of_some _ (Heap.get?_push_of_some _ (Heap.get?_push_of_some _ (Heap.get?_push_of_some _ x))))⟩
end
section
variable {X : Cx} {elts : List Expr} {kk : Nat} {tpos : Pos}
def iZip (K : PySem.W.Frag) (k1 k2 : SK) (ta : TA) : TI := fun σ H R => ta σ H fun vs H1 => ∃ a b, vs = [.ref a, .ref b] ∧ (∃ xs, Sq k1 K H1 a xs) ∧ (∃ ys, Sq k2 K H1 b ys) ∧ R (Itz K k1 k2 a b) H1
theorem zaq3 (k1 k2 : SK) {a b : Expr} {ta : TA} {p pos : Pos} (hg : Gl X "zip") (hm : X.mg "zip" = none) (ha : PA X [a, b] ta) (hs : starEach [a, b] X.env = [(false, eval a X.env), (false, eval b X.env)] := by rfl) (hs2 : starEach [b] X.env = [(false, eval b X.env)] := by rfl) :
  PI X (.Tuple elts kk tpos) (.Call (.Name "zip" p) [a, b] [] pos) (iZip X.K k1 k2 ta) := by
 intro pins s σ H R I h
 refine Call_ (zaet I hg hm boot_zip (PyProof.Rows.callWith_type1 (thn (ha pos pins s σ H _ I h) fun us s1 ⟨vs, H1, I1, r1, q1⟩ => ?_) (by rw [hs, hs2]) (by rw [hs2]; rfl)))
 obtain ⟨a', b', e, ⟨xs, qx⟩, ⟨ys, qy⟩, q⟩ := q1
 subst e
 obtain ⟨u, v, rfl, ru, rv⟩ := vals2 r1
 cases ru
 cases rv
 obtain ⟨ix, rx, px⟩ := I1.sis qx
 obtain ⟨iy, ry, py⟩ := I1.sis qy
 refine zaju px py fun h' b1 b2 b3 b4 b5 b6 => wpAny_pyIter_zip (s := { s1 with heap := h' }) b1 ?_
 have nn : ∀ b, s1.heap.objs.size ≤ b → FpOk X pins H1 b := fun b hb => I1.fpOk hb (I1.hok.fresh hb)
 refine ⟨_, [s1.heap.objs.size + 4, s1.heap.objs.size + 2, s1.heap.objs.size + 3, s1.heap.objs.size, s1.heap.objs.size + 1], _, _, H1, rfl, I1.kept (t' := s1.toks) b6, zamq (k1 := k1) (k2 := k2) (zipApart_new px.lt py.lt), ⟨b1, b2, ⟨_, _, b3⟩, b4, b5⟩, fun b hb => ?_, q⟩
 simp only [List.mem_cons, List.not_mem_nil, or_false] at hb
 rcases hb with rfl | rfl | rfl | rfl | rfl
 ·exact nn _ (Nat.le_add_right _ _)
 ·exact nn _ (Nat.le_add_right _ _)
 ·exact nn _ (Nat.le_add_right _ _)
 ·exact nn _ (Nat.le_refl _)
 ·exact nn _ (Nat.le_add_right _ _)
end
end L2

namespace L2
open PySem PySem.Spec PyProof.Rows PySem.Builtin PySem.Builtin.Str
section
variable {X : Cx}
def rSlS : V → Option Int → Option Int → Hp → VK → Prop := fun x lo hi H Q => ∃ z, x = .str z ∧ z.length ≤ sizeLine ∧ Q (.str (Txt.slice z lo hi)) H
def rMulS : R2 := fun x y H Q => ∃ c n, x = .str ⟨#[c]⟩ ∧ y = .int n ∧ 1 ≤ n ∧ n ≤ 1000 ∧ ∀ z : Str, z.cps.toList = List.replicate n.toNat c → Q (.str z) H
def rJoin (K : PySem.W.Frag) : V → List V → Hp → VK → Prop := fun x vs H Q => ∃ sep p ys, x = .str sep ∧ vs = [.ref p] ∧ SqL K H p (ys.map V.str) ∧ (ys.map (·.length)).sum + ys.length * sep.length ≤ 16777216 ∧ Q (.str (Str.join sep ys)) H
def rSplit : V → List V → Hp → VK → Prop := fun x vs H Q => ∃ z y, x = .str z ∧ vs = [.str y] ∧ y.length ≠ 0 ∧ z.length + 2 ≤ sizeLine ∧ ∀ p, H p = none → Q (.ref p) (upd H p (.lst ((Txt.split z y).map V.str)))
def rIsT (K : PySem.W.Frag) : List V → Hp → VK → Prop := fun xs H Q => ∃ x T t b, xs = [x, .ty T] ∧ TyOf K H x t ∧ PySem.W.kitOne K t (.type T) = some b ∧ Q (.bl b) H
theorem zaay : CallR X (.builtin "isinstance") (rIsT X.K) := by
 intro pins s σ H xs us Q I r h
 obtain ⟨x, T, t, b, rfl, ty, e, q⟩ := h
 obtain ⟨u, v, rfl, ru, rv⟩ := vals2 r
 cases rv
 exact zaji I ru ty e fun tk => ⟨.bl b, H, I.tok _, rfl, q⟩
example (K : PySem.W.Frag) : PySem.W.kitOne K (.type "int") (.type "int") = some true := rfl
example (K : PySem.W.Frag) : PySem.W.kitOne K (.type "str") (.type "int") = some false := rfl
example (K : PySem.W.Frag) : PySem.W.kitOne K (.type "tuple") (.type "int") = some false := rfl
example (K : PySem.W.Frag) : PySem.W.kitOne K (.type "bool") (.type "int") = some true := rfl
end
end L2

namespace L2
open PySem PySem.Spec PyProof.Rows
def ent (w : World) (x : Str × Tok × Value) : DictEntry := ⟨hashStr w x.1, .str x.1 x.2.1, x.2.2⟩
structure KD (P : Program) (w : World) (K : PySem.W.Frag) (a : Addr) (kvs : List (Key × V)) : Prop where
 ex : ∃ (o : Obj) (es : Array DictEntry) (ep : Nat) (vs : List (Key × Value)), K.lookup a = some o ∧ o.ExactDict ∧ o.data = .dict es ep ∧ KeysOf (mixKind P w) es ∧ Pairs (mixKind P w) es.toList vs ∧ (vs.map (·.1)).Nodup ∧ KV kvs vs
 ns : (a == sysModules) = false
def DK (P : Program) (w : World) (K : PySem.W.Frag) (H : Hp) (a : Addr) (kvs : List (Key × V)) : Prop := Rd H a (.dK kvs) ∨ KD P w K a kvs
section
variable {X : Cx}
def rIxD (X : Cx) : R2 := fun x y H Q => ∃ a kvs k v, x = .ref a ∧ y = kV k ∧ DK X.prog X.w X.K H a kvs ∧ valV kvs k = some v ∧ Q v H
def rInD (X : Cx) (neg : Bool) : R2 := fun x y H Q => ∃ a kvs k, y = .ref a ∧ x = kV k ∧ DK X.prog X.w X.K H a kvs ∧ Q (.bl (if neg then !(valV kvs k).isSome else (valV kvs k).isSome)) H
end
end L2

namespace L2
open PySem PySem.Spec PyProof.Rows
structure Pr (p : Prop) : Prop where
 h : p
section
variable {X : Cx}
theorem zajv {i : Nat} {x : Str} {pos : Pos} (hN : X.N[i]? = some x) (hv : Vis X.env.scope x) (hd : (x == ("__debug__" : Str)) = false := by decide) (hcd : (x == ("__classdict__" : Str)) = false := by decide) : Pr (PE X (.Name x pos) (tVar i)) := ⟨zap6 hN hv hd hcd⟩
theorem zaad {i j pos} : Pr (PE X (.Constant (.int i) j pos) (tC (.int i))) := ⟨zap7⟩
theorem zabz {b j pos} : Pr (PE X (.Constant (.bool b) j pos) (tC (.bl b))) := ⟨zari⟩
theorem zacy {j pos} : Pr (PE X (.Constant .none j pos) (tC .non)) := ⟨zap8⟩
theorem zaa2 {x j pos} : Pr (PE X (.Constant (.str x) j pos) (tC (.str x))) := ⟨zap9⟩
theorem zacd {x : Str} {v : V} {u : Value} {pos : Pos} (hg : Gl X x) (hm : X.mg x = some u) (r : RelV v u) (hd : (x == ("__debug__" : Str)) = false := by decide) : Pr (PE X (.Name x pos) (tC v)) := ⟨zan5 hg hm r hd⟩
theorem zaax {x : Str} {v : V} {u : Value} {pos : Pos} (hg : Gl X x) (hm : X.mg x = none) (hv : bootBuiltins x = some u) (r : RelV v u) (hn : x ≠ "__name__" := by decide) (hd : (x == ("__debug__" : Str)) = false := by decide) : Pr (PE X (.Name x pos) (tC v)) := ⟨zan6 hg hm hv r hn hd⟩
end
section
variable {X : Cx} {a b c : Expr} {ta tb tc : TE} {pos : Pos}
theorem zaaq {op : Operator} {r : R2} (ho : OpR X (binaryOp op) r) (ha : Pr (PE X a ta)) (hb : Pr (PE X b tb)) : Pr (PE X (.BinOp a op b pos) (tOp r ta tb)) := ⟨zarl ho ha.h hb.h⟩
theorem zab3 {op : UnaryOp} {r : V → Hp → VK → Prop} (ho : UnR X (unaryOp op) r) (ha : Pr (PE X a ta)) : Pr (PE X (.UnaryOp op a pos) (tUn r ta)) := ⟨zarm ho ha.h⟩
theorem zabu {op : CmpOp} {r : R2} (ho : OpR X (compareOp op) r) (ha : Pr (PE X a ta)) (hb : Pr (PE X b tb)) (hm : behindInMarks op b = false) : Pr (PE X (.Compare a [op] [b] pos) (tOp r ta tb)) := ⟨zaoh ho ha.h hb.h hm⟩
theorem zajw {op op' : CmpOp} {r r' : R2} (ho : OpR X (compareOp op) r) (ho' : OpR X (compareOp op') r') (ha : Pr (PE X a ta)) (hb : Pr (PE X b tb)) (hc : Pr (PE X c tc)) (hm : lastMarks [op, op'] [b, c] = false := by with_unfolding_all rfl) : Pr (PE X (.Compare a [op, op'] [b, c] pos) (tChain r r' ta tb tc)) := ⟨zal7 ho ho' ha.h hb.h hc.h hm⟩
end
section
variable {X : Cx}
variable {a b : Expr} {ta tb : TE} {pos : Pos}
variable {tA tB' : TT} {rest : List Expr}
theorem zabv (ha : Pr (PE X a ta)) (hb : Pr (PE X (.BoolOp .And (b :: rest) pos) tb)) : Pr (PE X (.BoolOp .And (a :: b :: rest) pos) (tAndV ta tb)) := ⟨zaqf ha.h hb.h⟩
end
section
variable {X : Cx}
variable {a b : Expr} {ta tb : TE} {pos : Pos}
variable {tA tB' : TT} {rest : List Expr}
end
section
variable {X : Cx}
variable {a b : Expr} {ta tb : TE} {pos : Pos}
variable {tA tB' : TT} {rest : List Expr}
theorem zab6 {op} {t : TE} (h : Pr (PE X a t)) : Pr (PE X (.BoolOp op [a] pos) t) := ⟨zaqe h.h⟩
end
section
variable {X : Cx}
variable {a b : Expr} {ta tb : TE} {pos : Pos}
variable {tA tB' : TT} {rest : List Expr}
theorem zafc (ha : Pr (PE X a ta)) : Pr (PE X (.UnaryOp .Not a pos) (tNotV ta)) := ⟨zaqg ha.h⟩
end
section
variable {X : Cx}
variable {a b : Expr} {ta tb : TE} {pos : Pos}
variable {tA tB' : TT} {rest : List Expr}
theorem zadl {c : Expr} (hc : Pr (PT X c tA)) (ha : Pr (PE X a ta)) (hb : Pr (PE X b tb)) : Pr (PE X (.IfExp c a b pos) (tIf tA ta tb)) := ⟨zal4 hc.h ha.h hb.h⟩
end
section
variable {X : Cx} {e : Expr} {es : List Expr} {te : TE} {t : TA} {pos : Pos}
theorem zaam {x1} (h : Pr (PA X es t)) : Pr (PE X (.Tuple es x1 pos) (tTup t)) := ⟨zaqq h.h⟩
theorem zabm (h : Pr (PA X es t)) : Pr (PE X (.List es pos) (tLst t)) := ⟨zaqr h.h⟩
end
section
variable {X : Cx} {e : Expr} {te : TE} {lo hi : Option Expr} {tl th : TO} {pos p2 : Pos}
theorem zagr {r : V → Option Int → Option Int → Hp → VK → Prop} (hr : SlR X r) (he : Pr (PE X e te)) (hl : Pr (PO X lo tl)) (hu : Pr (PO X hi th)) : Pr (PE X (.Subscript e (.Slice lo hi none p2) pos) (tSl r te tl th)) := ⟨zamc hr he.h hl.h hu.h⟩
end
section
variable {X : Cx} {a b : Expr} {ta tb : TE} {pos : Pos}
theorem zaa1 {r : R2} (hr : IxR X r) (ha : Pr (PE X a ta)) (hb : Pr (PE X b tb)) (hs : PlainIx b) : Pr (PE X (.Subscript a b pos) (tOp r ta tb)) := ⟨zarn hr ha.h hb.h hs⟩
end
section
variable {X : Cx}
end
section
variable {X : Cx} {o e value : Expr} {f : Str} {pos pos' tpos : Pos} {ta tv : TE}
theorem zabq (he : Pr (PE X e ta)) (hb : attributeBase e f X.env (eval e X.env) = eval e X.env) : Pr (PE X (.Attribute e f pos) (tFld X.K ta f)) := ⟨zann he.h hb⟩
end
section
variable {X : Cx} {CX : CXT} {k : Nat} {ps : List Str} {sp : Sp} {E : XK} {x : Str} {p pos : Pos} {e : Expr} {es : List Expr} {t : TA}
theorem zaan (D : DefOk X.prog X.w X.K X.mg X.base CX k x ps sp) (hr : Room k X.A) (hg : Gl X x) (hx : Passes CX X E) (ha : Pr (PA X (e :: es) t)) (hdb : (x == ("__debug__" : Str)) = false := by decide) (he : starEach (e :: es) X.env = (false, eval e X.env) :: starEach es X.env := by rfl) (hpl : (backTo pos (starEach es X.env)).any (·.1) = false := by rfl) : Pr (PE X (.Call (.Name x p) (e :: es) [] pos) (tCall sp [] E t)) := ⟨zamm D hr hg hx ha.h hdb he hpl⟩
end
section
variable {X : Cx} {x : Str} {p pos : Pos} {e : Expr} {es : List Expr} {t : TA} {id T : String} {r : List V → Hp → VK → Prop}
theorem zaaj (hc : CallR X (.builtin id) r) (hg : Gl X x) (hm : X.mg x = none) (hv : bootBuiltins x = some (.builtin id)) (ha : Pr (PA X (e :: es) t)) (hn : x ≠ "__name__" := by decide) (hdb : (x == ("__debug__" : Str)) = false := by decide) (he : starEach (e :: es) X.env = (false, eval e X.env) :: starEach es X.env := by rfl) (hpl : (backTo pos (starEach es X.env)).any (·.1) = false := by rfl) : Pr (PE X (.Call (.Name x p) (e :: es) [] pos) (tCB r t)) := ⟨zama hc hg hm hv ha.h hn hdb he hpl⟩
theorem zaix (hc : CallR X (.type T) r) (hg : Gl X x) (hm : X.mg x = none) (hv : bootBuiltins x = some (.type T)) (ha : Pr (PA X (e :: es) t)) (hn : x ≠ "__name__" := by decide) (hdb : (x == ("__debug__" : Str)) = false := by decide) (he : starEach (e :: es) X.env = (false, eval e X.env) :: starEach es X.env := by rfl) (hpl : (backTo pos (starEach es X.env)).any (·.1) = false := by rfl) : Pr (PE X (.Call (.Name x p) (e :: es) [] pos) (tCB r t)) := ⟨zajk hc hg hm hv ha.h hn hdb he hpl⟩
end
section
variable {X : Cx} {a b : Expr} {ta tb : TE} {pos : Pos}
variable {o e : Expr} {es : List Expr} {to : TE} {t : TA} {name : Str} {apos cpos : Pos} {T id : String} {r : V → List V → Hp → VK → Prop}
theorem zaex (pa : PlainAttrs T) (slot : Slot T name id) (hty : typeOf (.builtin id) = pure (.type "method_descriptor")) (hm : MtR X id r) (ho : Pr (PE X o to)) (ha : Pr (PA X (e :: es) t)) (hbase : attributeBase o name X.env (eval o X.env) = eval o X.env := by rfl) (hfew : ((backTo cpos (starEach (e :: es) X.env)).all (fun x => !x.1) && (backToKw cpos (keywordEach [] X.env)).all (fun x => x.1.isSome)
   && decide ((e :: es).length + ([] : List Keyword).length + (if ([] : List Keyword).isEmpty then 0 else 1) < 30)) = true := by rfl) (hline : (apos.endLine == cpos.line) = true := by rfl) (hs : starEach (e :: es) X.env = (false, eval e X.env) :: starEach es X.env := by rfl) (hplain : (backTo cpos (starEach es X.env)).any (·.1) = false := by rfl) : Pr (PE X (.Call (.Attribute o name apos) (e :: es) [] cpos) (tBM X.K T r to t)) := ⟨zaro pa slot hty hm ho.h ha.h hbase hfew hline hs hplain⟩
end
section
variable {X : Cx} {a b c : Expr} {ta tb tc : TE} {pos : Pos}
theorem zaaw {op : CmpOp} {r : R2} (ho : OpR X (compareOp op) r) (ha : Pr (PE X a ta)) (hb : Pr (PE X b tb)) (hm : behindInMarks op b = false) : Pr (PT X (.Compare a [op] [b] pos) (tTest (tOp r ta tb))) := ⟨zaoi ho ha.h hb.h hm⟩
theorem zaed {op op' : CmpOp} {r r' : R2} (ho : OpR X (compareOp op) r) (ho' : OpR X (compareOp op') r') (ha : Pr (PE X a ta)) (hb : Pr (PE X b tb)) (hc : Pr (PE X c tc)) (hm : lastMarks [op, op'] [b, c] = false := by with_unfolding_all rfl) : Pr (PT X (.Compare a [op, op'] [b, c] pos) (tTest (tChain r r' ta tb tc))) := ⟨zal8 ho ho' ha.h hb.h hc.h hm⟩
end
section
variable {X : Cx}
variable {a b : Expr} {ta tb : TE} {pos : Pos}
variable {tA tB' : TT} {rest : List Expr}
theorem zabj (ha : Pr (PT X a tA)) : Pr (PT X (.UnaryOp .Not a pos) (tNot tA)) := ⟨zaqd ha.h⟩
end
section
variable {X : Cx}
variable {a b : Expr} {ta tb : TE} {pos : Pos}
theorem zaa3 {e : Expr} {t : TE} (h : Pr (PE X e t)) (he : ∀ whole, isTrue e X.env whole = (do let v ← whole; standAt e.pos; holding [v] (truthy v)) := by intro _; rfl) : Pr (PT X e (tB t)) := ⟨zaqa h.h he⟩
end
section
theorem zab8 {X : Cx} {e : Expr} {t : TT} (h : Pr (PW X e t)) : Pr (PT X e t) := ⟨PW.pt h.h⟩
end
section
variable {X : Cx}
variable {a b : Expr} {ta tb : TE} {pos : Pos}
variable {tA tB' : TT} {rest : List Expr}
theorem zafd (ha : Pr (PT X a tA)) (hb : Pr (PW X (.BoolOp .And (b :: rest) pos) tB')) : Pr (PW X (.BoolOp .And (a :: b :: rest) pos) (tAnd tA tB')) := ⟨zaqc ha.h hb.h⟩
end
section
variable {X : Cx}
variable {a b : Expr} {ta tb : TE} {pos : Pos}
variable {tA tB' : TT} {rest : List Expr}
theorem zah8 (ha : Pr (PT X a tA)) : Pr (PW X (.BoolOp .And [a] pos) tA) := ⟨zan7 ha.h⟩
end
section
variable {X : Cx}
variable {a b : Expr} {ta tb : TE} {pos : Pos}
variable {tA tB' : TT} {rest : List Expr}
theorem zab9 (ha : Pr (PT X a tA)) (hb : Pr (PW X (.BoolOp .Or (b :: rest) pos) tB')) : Pr (PW X (.BoolOp .Or (a :: b :: rest) pos) (tOr tA tB')) := ⟨zarj ha.h hb.h⟩
end
section
variable {X : Cx}
variable {a b : Expr} {ta tb : TE} {pos : Pos}
variable {tA tB' : TT} {rest : List Expr}
theorem zabx (ha : Pr (PT X a tA)) : Pr (PW X (.BoolOp .Or [a] pos) tA) := ⟨zaqb ha.h⟩
end
section
variable {X : Cx} {e : Expr} {es : List Expr} {te : TE} {t : TA} {pos : Pos}
theorem zaab  : Pr (PA X [] tNil) := ⟨zaqp⟩
theorem zaaa (ha : Pr (PE X e te)) (hr : Pr (PA X es t)) (hs : starEach (e :: es) X.env = (false, eval e X.env) :: starEach es X.env := by rfl) : Pr (PA X (e :: es) (tCons te t)) := ⟨zaom ha.h hr.h hs⟩
end
section
variable {X : Cx} {e : Expr} {te : TE} {lo hi : Option Expr} {tl th : TO} {pos p2 : Pos}
theorem zah9  : Pr (PO X none tNoPart) := ⟨zaop⟩
theorem zaia (h : Pr (PE X e te)) : Pr (PO X (some e) (tPart te)) := ⟨zaoq h.h⟩
end
section
variable {X : Cx} {tg : Expr}
theorem zacz {l : Expr} {tl : TE} (hl : Pr (PE X l tl)) : Pr (PI X tg l (iList X.K tl)) := ⟨zaoe hl.h⟩
theorem zafe {l : Expr} {tl : TE} (hl : Pr (PE X l tl)) : Pr (PI X tg l (iTup X.K tl)) := ⟨zaql hl.h⟩
theorem zaaz {a : Expr} {ta : TA} {p pos : Pos} (hg : Gl X "range") (hm : X.mg "range" = none) (ha : Pr (PA X [a] ta)) (hs : starEach [a] X.env = [(false, eval a X.env)] := by rfl) : Pr (PI X tg (.Call (.Name "range" p) [a] [] pos) (iRng1 ta)) := ⟨zai9 hg hm ha.h hs⟩
theorem zac7 {a b : Expr} {ta : TA} {p pos : Pos} (hg : Gl X "range") (hm : X.mg "range" = none) (ha : Pr (PA X [a, b] ta)) (hs : starEach [a, b] X.env = [(false, eval a X.env), (false, eval b X.env)] := by rfl) (hs2 : starEach [b] X.env = [(false, eval b X.env)] := by rfl) : Pr (PI X tg (.Call (.Name "range" p) [a, b] [] pos) (iRng2 ta)) := ⟨zaja hg hm ha.h hs hs2⟩
end
section
variable {X : Cx} {elts : List Expr} {kk : Nat} {tpos : Pos}
theorem zag8 (k1 k2 : SK) {a b : Expr} {ta : TA} {p pos : Pos} (hg : Gl X "zip") (hm : X.mg "zip" = none) (ha : Pr (PA X [a, b] ta)) (hs : starEach [a, b] X.env = [(false, eval a X.env), (false, eval b X.env)] := by rfl) (hs2 : starEach [b] X.env = [(false, eval b X.env)] := by rfl) : Pr (PI X (.Tuple elts kk tpos) (.Call (.Name "zip" p) [a, b] [] pos) (iZip X.K k1 k2 ta)) := ⟨zaq3 k1 k2 hg hm ha.h hs hs2⟩
end
section
variable {X : Cx} {pos : Pos}
theorem zaao {i : Nat} {x : Str} (hN : X.N.Nodup) (hi : X.N[i]? = some x) (hx : Loc X.env.scope x) (hf : X.fn x = true ∨ X.env.scope.names.lookup x = some .local := by first | exact .inl rfl | exact .inr rfl | assumption) : Pr (PG X (.Name x pos) (gName i)) := ⟨zaob hN hi hx hf⟩
theorem zaco  : Pr (PGs X [] gNil) := ⟨zaoc⟩
theorem zaba {e : Expr} {es : List Expr} {t : TG} {u : TGs} (h1 : Pr (PG X e t)) (h2 : Pr (PGs X es u)) (hs : (assignEach (e :: es) X.env).map (·.2) = assign e X.env :: (assignEach es X.env).map (·.2) := by rfl) : Pr (PGs X (e :: es) (gCons t u)) := ⟨zal5 h1.h h2.h hs⟩
theorem zaee {es : List Expr} {k : Nat} {t : TGs} {n : Nat} (hc : X.calm = true) (h : Pr (PGs X es t)) (hn : (assignEach es X.env).length = n := by rfl) (hst : (assignEach es X.env).findIdx? (·.1) = none := by rfl) : Pr (PG X (.Tuple es k pos) (gTup X.K n t)) := ⟨zanl hc h.h hn hst⟩
theorem zao1 {o i : Expr} {to ti : TE} {t : TSet} (ho : Pr (PE X o to)) (hi : Pr (PE X i ti)) (hs : PSet X t) (ha : ∀ v, assign (.Subscript o i pos) X.env v = (do
   let ov ← holding [v] (eval o X.env)
   let iv ← holding [v, ov] (eval i X.env)
   standAt pos
   holding [v, ov, iv] (setItem ov iv v)
   release [v, ov, iv] []) := by intro _; rfl) : Pr (PG X (.Subscript o i pos) (gSub to ti t)) := ⟨zaqi ho.h hi.h hs ha⟩
end
section
variable {X : Cx} {st : Stmt} {rest : List Stmt} {t u : TS} {e : Expr} {te : TE} {pos : Pos}
theorem zaap (he : Pr (PE X e te)) : Pr (PS X (.Return (some e) pos) (tRet te)) := ⟨zaqh he.h⟩
end
section
variable {X : Cx} {pos : Pos}
theorem zaav {i : Nat} {x : Str} {e : Expr} {te : TE} {pos' : Pos} (hN : X.N.Nodup) (hi : X.N[i]? = some x) (hx : Loc X.env.scope x) (he : Pr (PE X e te)) (hs : swapsWith e (some (.Name x pos')) pos.line X.env = pure false := by rfl) (hf : X.fn x = true ∨ X.env.scope.names.lookup x = some .local := by first | exact .inl rfl | exact .inr rfl | assumption) : Pr (PS X (.Assign [.Name x pos'] e pos) (tAsg te (gName i))) := ⟨zaqk hN hi hx he.h hs hf⟩
theorem zaff {tg e : Expr} {te : TE} {g : TG} (he : Pr (PE X e te)) (hg : Pr (PG X tg g)) (hs : swapsWithSole [tg] e pos.line X.env = pure false := by rfl) (hw : swappedStores [tg] e X.env = pure none := by rfl) (h1 : (assignEach [tg] X.env).map (·.2) = [assign tg X.env] := by rfl) : Pr (PS X (.Assign [tg] e pos) (tAsg te g)) := ⟨zaqj he.h hg.h hs hw h1⟩
end
section
variable {X : Cx} {st : Stmt} {rest : List Stmt} {t u : TS} {e : Expr} {te : TE} {pos : Pos}
theorem zaa4 {c : Expr} {a b : List Stmt} {tc : TT} (hc : Pr (PT X c tc)) (ha : Pr (PSs X a t)) (hb : Pr (PSs X b u)) : Pr (PS X (.If c a b pos) (tIfS tc t u)) := ⟨zark hc.h ha.h hb.h⟩
end
section
theorem zabk {X : Cx} {tg iter : Expr} {body : List Stmt} {wi : TI} {g : TG} {tb : TS} {pos : Pos} (hp : PassesOwn (model X.prog X.w) X.A X.env X.xe) (hc : X.calm = true) (hi : Pr (PI X tg iter wi)) (hg : Pr (PG X tg g)) (hb : Pr (PSs X body tb)) (hs : ∀ x, foldedSetIterable iter X.env x = pure x := by intro _; rfl) : Pr (PS X (.For tg iter body [] pos) (tLoop wi g tb)) := ⟨zaoz hp hc hi.h hg.h hb.h hs⟩
end
section
variable {X : Cx} {pos : Pos}
end
section
variable {X : Cx} {st : Stmt} {rest : List Stmt} {t u : TS} {e : Expr} {te : TE} {pos : Pos}
theorem zacp (he : Pr (PE X e te)) (hs : swapsWith e none pos.line X.env = pure false := by rfl) : Pr (PS X (.Expr e pos) (tDrop te)) := ⟨zaoa he.h hs⟩
theorem zaas  : Pr (PSs X [] tNext) := ⟨zan8⟩
theorem zaak (h1 : Pr (PS X st t)) : Pr (PSs X [st] t) := ⟨zan9 h1.h⟩
theorem zaaf (h1 : Pr (PS X st t)) (h2 : Pr (PSs X rest u)) : Pr (PSs X (st :: rest) (tSeq t u)) := ⟨zah0 h1.h h2.h⟩
end
section
theorem zabo {X : Cx} {st : Stmt} {rest : List Stmt} {t u : TS} (h1 : Pr (PS X st t)) (h2 : Pr (PSs X rest u)) : Pr (PSs X (st :: rest) (tCut t u)) := ⟨zao0 h1.h h2.h⟩
end
section
variable {X : Cx} {st : Stmt} {rest : List Stmt} {t u : TS} {e : Expr} {te : TE} {pos : Pos}
end
section
variable {X : Cx} {o e value : Expr} {f : Str} {pos pos' tpos : Pos} {ta tv : TE}
theorem zag9 (ha : Pr (PE X o ta)) (hv : Pr (PE X value tv)) (hs : swapsWith value (some (.Attribute o f pos')) pos.line X.env = pure false) : Pr (PS X (.Assign [.Attribute o f pos'] value pos) (sFld X.K ta tv f)) := ⟨zaqo ha.h hv.h hs⟩
end
end L2

namespace L2
open PySem PySem.Spec PyProof.Rows
def relab (sc outer : Scope) : Scope :=
 { sc with names := sc.names.map fun (n, k) => if (k == .free && outer.kind == .function && outer.names.lookup n == some .cell) then (n, .cell) else (n, k) }
structure CompOk (sc outer : Scope) (own : List Str) (N : List Str) (fr : List Nat) (N' : List Str) : Prop where
 kind : sc.kind = .function
 nocell : ∀ y ∈ sc.names, y.2 ≠ .cell
 loc : ∀ y ∈ sc.names, y.2 = .local → sc.names.lookup y.1 = some .local
 fre : ∀ y ∈ sc.names, y.2 = .free → outer.names.lookup y.1 = some .cell ∨ outer.names.lookup y.1 = some .free
 nd : N'.Nodup
 all : N'.map some = own.map some ++ fr.map fun j => N[j]?
 frk : ∀ j ∈ fr, ∀ x, N[j]? = some x → sc.names.lookup x = some .free ∧ (outer.names.lookup x = some .cell ∨ outer.names.lookup x = some .free)
def cst (n : Nat) (fr : List Nat) (σ : St) : St := List.replicate n none ++ fr.map fun j => (σ[j]?).join
theorem zaef {env : Env} {sc : Scope} (h : ∀ y ∈ sc.names, y.2 = .free → ∃ c, env.cells.lookup y.1 = some c) :
  ∃ cl, closureFor sc env = pure cl ∧ (∀ x c, cl.lookup x = some c → env.cells.lookup x = some c) ∧ ∀ y ∈ sc.names, y.2 = .free → ∃ c, cl.lookup y.1 = some c := by
 have key : ∀ (l : List (Str × NameKind)) (cs : List (Str × Addr)), (∀ y ∈ l, y.2 = .free → ∃ c, env.cells.lookup y.1 = some c) → (∀ x c, cs.lookup x = some c → env.cells.lookup x = some c) →
   ∃ cl, (forIn l cs fun x r => if (x.2 == NameKind.free) = true then do let a ← cellOf env x.1; pure (ForInStep.yield ((x.1, a) :: r)) else pure (ForInStep.yield r)) = (pure cl : Sem _) ∧ (∀ x c, cl.lookup x = some c → env.cells.lookup x = some c) ∧
    (∀ x, (∃ c, cs.lookup x = some c) → ∃ c, cl.lookup x = some c) ∧ ∀ y ∈ l, y.2 = .free → ∃ c, cl.lookup y.1 = some c := by
  intro l
  induction l with
  | nil => intro cs _ h2; exact ⟨cs, rfl, h2, fun _ z => z, fun y hy => nomatch hy⟩
  | cons y l ih =>
   intro cs h1 h2
   obtain ⟨n, k⟩ := y
   by_cases hk : k = .free
   ·subst hk
    obtain ⟨c, hc⟩ := h1 (n, .free) List.mem_cons_self rfl
    obtain ⟨cl, e, a, b, d⟩ := ih ((n, c) :: cs) (fun y hy => h1 y (List.mem_cons_of_mem _ hy)) (fun x c' hx => by
     rw [List.lookup_cons] at hx
     split at hx
     ·rename_i q
      have : x = n := by simpa using q
      cases hx; subst this; exact hc
     ·exact h2 x c' hx)
    refine ⟨cl, ?_, a, fun x ⟨c', hx⟩ => b x ?_, fun y hy hf => ?_⟩
    ·rw [List.forIn_cons]
     have e1 : cellOf env n = pure c := by unfold cellOf; rw [hc]
     simp only [beq_self_eq_true, if_true, e1, pure_bind]
     exact e
    ·rw [List.lookup_cons]
     split
     ·exact ⟨_, rfl⟩
     ·exact ⟨c', hx⟩
    ·rcases List.mem_cons.mp hy with rfl | hy
     ·exact b n ⟨c, by simp [List.lookup_cons]⟩
     ·exact d y hy hf
   ·obtain ⟨cl, e, a, b, d⟩ := ih cs (fun y hy => h1 y (List.mem_cons_of_mem _ hy)) h2
    refine ⟨cl, ?_, a, b, fun y hy hf => ?_⟩
    ·rw [List.forIn_cons]
     have hb : (k == NameKind.free) = false := by simpa using hk
     simp only [hb, Bool.false_eq_true, if_false, pure_bind]
     exact e
    ·rcases List.mem_cons.mp hy with rfl | hy
     ·exact absurd hf hk
     ·exact d y hy hf
 obtain ⟨cl, e, a, _, d⟩ := key sc.names [] h (fun x c hx => by simp at hx)
 refine ⟨cl, ?_, a, d⟩
 unfold closureFor
 simp only [e, pure_bind]
def cxC (X : Cx) (sc : Scope) (cl : List (Str × Addr)) (N' : List Str) (C : Addr) (s : Shared) (H : Hp) (fp : List Addr) : Cx :=
 { X with N := N', s₀ := s, H₀ := H, env := compEnvC sc cl C X.env, outer := X.stack, stack := X.stack, ex := fp, fn := fun _ => false, pn := [], xe := fun _ _ => False }
theorem zacq {outer : Scope} : ∀ {names : List (Str × NameKind)} {x : Str} {k : NameKind},
  (names.map fun (n, k) => if (k == NameKind.free && outer.kind == .function && outer.names.lookup n == some .cell) then (n, NameKind.cell) else (n, k)).lookup x = some k →
   names.lookup x = some k ∨ (names.lookup x = some .free ∧ k = .cell)
 | [], x, k, h => by simp at h
 | (n, k') :: r, x, k, h => by
  rw [List.map_cons] at h
  by_cases hc : (k' == NameKind.free && outer.kind == .function && outer.names.lookup n == some .cell) = true
  ·simp only [hc, if_true] at h
   rw [List.lookup_cons] at h ⊢
   cases hx : x == n with
   | true =>
    rw [hx] at h
    simp only [Option.some.injEq] at h
    have hf : k' = .free := by
     have := (Bool.and_eq_true_iff.mp (Bool.and_eq_true_iff.mp hc).1).1
     simpa using this
    exact .inr ⟨by simp [hf], h.symm⟩
   | false => rw [hx] at h; exact zacq h
  ·simp only [hc, Bool.false_eq_true, if_false] at h
   rw [List.lookup_cons] at h ⊢
   cases hx : x == n with
   | true => rw [hx] at h; exact .inl (by simpa using h)
   | false => rw [hx] at h; exact zacq h
theorem zadq {outer : Scope} : ∀ {names : List (Str × NameKind)} {x : Str}, names.lookup x = some .free →
  (names.map fun (n, k) => if (k == NameKind.free && outer.kind == .function && outer.names.lookup n == some .cell) then (n, NameKind.cell) else (n, k)).lookup x = some .cell ∨
  (names.map fun (n, k) => if (k == NameKind.free && outer.kind == .function && outer.names.lookup n == some .cell) then (n, NameKind.cell) else (n, k)).lookup x = some .free
 | [], x, h => by simp at h
 | (n, k') :: r, x, h => by
  rw [List.lookup_cons] at h
  rw [List.map_cons]
  by_cases hc : (k' == NameKind.free && outer.kind == .function && outer.names.lookup n == some .cell) = true
  ·simp only [hc, if_true]
   rw [List.lookup_cons]
   cases hx : x == n with
   | true => exact .inl rfl
   | false => rw [hx] at h; exact zadq h
  ·simp only [hc, Bool.false_eq_true, if_false]
   rw [List.lookup_cons]
   cases hx : x == n with
   | true => rw [hx] at h; exact .inr h
   | false => rw [hx] at h; exact zadq h
theorem zac0 {α : Type} : ∀ {l : List (Str × α)} {x : Str} {k : α}, l.lookup x = some k → (x, k) ∈ l
 | [], _, _, h => by simp at h
 | (n, k') :: r, x, k, h => by
  rw [List.lookup_cons] at h
  cases hx : x == n with
  | true =>
   rw [hx] at h
   have e : x = n := by simpa using hx
   have e2 : k' = k := by simpa using h
   rw [e, e2]; exact List.mem_cons_self
  | false => rw [hx] at h; exact List.mem_cons_of_mem _ (zac0 h)
section
variable {X : Cx} {pins : List (Addr × Obj)} {σ : St} {H : Hp} {s : Shared} {sc : Scope} {own : List Str} {fr : List Nat} {N' : List Str} {cl : List (Str × Addr)}
theorem zaha (I : Inv X pins σ H s) (cs : CompOk sc X.env.scope own X.N fr N') (h1 : ∀ x c, cl.lookup x = some c → X.env.cells.lookup x = some c) (h2 : ∀ y ∈ sc.names, y.2 = .free → ∃ c, cl.lookup y.1 = some c)
  {fp : List Addr} (hf : ∀ b ∈ fp, FpOk X pins H b ∧ ∃ o, s.heap.get? b = some o) {h' : Heap} {t' : Nat} {C D : Addr} {o : Obj} (hC : s.heap.objs.size ≤ C) (hD : s.heap.objs.size ≤ D) (hDC : D ≠ C)
  (k : ∀ b u, s.heap.get? b = some u → h'.get? b = some u) (hn : h'.Ns C fun _ => none) (hDo : h'.get? D = some o) (hd : ∀ v, o.data ≠ .cell v) :
  Inv (cxC X sc cl N' C s H fp) [(D, o)] (cst own.length fr σ) H { s with heap := h', toks := t' } := by
 have lt : ∀ b u, s.heap.get? b = some u → b < s.heap.objs.size := fun b u e => Heap.lt_size e
 have fpC : ∀ b ∈ fp, b ≠ C := fun b hb z => by
  obtain ⟨_, o, e⟩ := hf b hb
  have := lt b o e
  rw [z] at this
  exact absurd (Nat.lt_of_lt_of_le this hC) (Nat.lt_irrefl _)
 have lenN : N'.length = own.length + fr.length := by
  have := congrArg List.length cs.all
  simpa using this
 refine ⟨⟨I.ok.mod, cs.kind, I.ok.glob, I.ok.blt, hC, fun x y c e1 e2 => I.ok.inj x y c (h1 x c e1) (h1 y c e2), fun x hx => ?_, fun x c z => absurd z Bool.false_ne_true, I.ok.hd, I.ok.frames, .inl rfl, fun b hb => ⟨fpC b hb, fun x c e => (hf b hb).1.2.2.2.2.1 x c (h1 x c e)⟩,
   I.bs, Nat.le_trans I.ok.bsz I.sz, fun b o' e hb => ?_, fun b hb z => ?_, I.stack, I.stkFree⟩,
  rfl, I.bare, Un.kept k, ⟨_, hn, fun i x v e1 e2 e3 => ?_⟩, fun x c e => ?_, I.hok.fresh hC, fun x c e => I.freeC x c (h1 x c e), fun p hp => ?_, I.hok.kept k, ?_⟩
 ·have hx' : (relab sc X.env.scope).names.lookup x = some .cell ∨ (relab sc X.env.scope).names.lookup x = some .free := hx
  have hfree : sc.names.lookup x = some .free := by
   rcases hx' with z | z
   ·rcases zacq z with q | q
    ·exact absurd rfl (cs.nocell _ (zac0 q))
    ·exact q.1
   ·rcases zacq z with q | q
    ·exact q
    ·exact q.1
  exact h2 (x, .free) (zac0 hfree) rfl
 ·have q := (hf b hb).1.2.2.2.1
  rcases q with q | q
  ·exact I.ok.noex b o' e q
  ·exact absurd (Nat.lt_of_lt_of_le (Heap.lt_size (I.ok.bs b o' e).1) q) (Nat.lt_irrefl _)
 ·have z' : b ∈ frs X.stack := z
  rcases List.mem_cons.mp (I.stkSub b z') with q | q
  ·exact (hf b hb).1.2.1 q
  ·exact (hf b hb).1.2.2.1 q
 ·-- a name of the block at its entry is one of the def's
  have hi : own.length ≤ i := by
   by_cases hi : i < own.length
   ·have e2' : (cst own.length fr σ)[i]? = some none := by
     unfold cst
     rw [List.getElem?_append_left (by simpa using hi), List.getElem?_replicate, if_pos hi]
    rw [e2'] at e2; cases e2
   ·omega
  have e2' : (fr.map fun j => (σ[j]?).join)[i - own.length]? = some (some v) := by
   unfold cst at e2
   rwa [List.getElem?_append_right (by simpa using hi), List.length_replicate] at e2
  rw [List.getElem?_map] at e2'
  have e1a : (N'.map some)[i]? = some (some x) := by
   have e1 : N'[i]? = some x := e1
   rw [List.getElem?_map, e1]; rfl
  rw [cs.all, List.getElem?_append_right (by simpa using hi), List.length_map, List.getElem?_map] at e1a
  cases ej : fr[i - own.length]? with
  | none => rw [ej] at e2'; cases e2'
  | some j =>
   rw [ej] at e2' e1a
   have hj : j ∈ fr := List.mem_of_getElem? ej
   have nj : X.N[j]? = some x := by simpa using e1a
   have sj : σ[j]? = some (some v) := by
    have : (σ[j]?).join = some v := by simpa using e2'
    cases q : σ[j]? with
    | none => rw [q] at this; cases this
    | some y => rw [q] at this; simp at this; rw [this]
   obtain ⟨kf, ko⟩ := cs.frk j hj x nj
   obtain ⟨m, hm, hl⟩ := I.loc
   obtain ⟨u, r, l⟩ := hl j x v nj sj (.inr ko)
   refine ⟨u, r, .inr ?_⟩
   have lk : X.env.kindOf x = some .cell ∨ X.env.kindOf x = some .free := ko
   rcases l with ⟨z, _⟩ | ⟨_, c, ec, ic⟩
   ·rcases lk with q | q <;> rw [z] at q <;> cases q
   ·obtain ⟨c', hc'⟩ := h2 (x, .free) (zac0 kf) rfl
    have : c' = c := by
     have := h1 x c' hc'
     rw [ec] at this; exact (Option.some.inj this).symm
    subst this
    refine ⟨zadq kf, c', hc', ?_⟩
    obtain ⟨oc, hoc, hcd⟩ := ic
    exact ⟨oc, k c' oc hoc, hcd⟩
 ·obtain ⟨v, oc, hoc, hcd⟩ := I.cell x c (h1 x c e)
  exact ⟨v, oc, k c oc hoc, hcd⟩
 ·have hp' : p ∈ [(D, o)] := hp
  have e : p = (D, o) := by simpa using hp'
  subst e
  refine ⟨hDo, I.hok.fresh hD, hDC, fun z => ?_, hd⟩
  have z' : D ∈ frs X.stack := z
  obtain ⟨_, o2, ho2, _⟩ := I.stack.mem z'
  exact absurd (Nat.lt_of_lt_of_le (Heap.lt_size ho2) hD) (Nat.lt_irrefl _)
 ·show (cst own.length fr σ).length = N'.length
  unfold cst
  rw [List.length_append, List.length_replicate, List.length_map, lenN]
theorem zajx (I : Inv X pins σ H s) {fp : List Addr} (hf : ∀ b ∈ fp, FpOk X pins H b ∧ ∃ o, s.heap.get? b = some o) {C D : Addr} {its : List Value} {ys : List V} {n : Nat} {σ' : St} {H' : Hp} {s' : Shared}
  (hD : s.heap.objs.size ≤ D) (J : Inv (cxC X sc cl N' C s H fp) [(D, { cls := .type "list", data := .seq its.toArray n })] σ' H' s') (r : Vals ys its) (hz : ys.length ≤ sizeLine) : Inv X pins σ (upd H' D (.lst ys)) s' := by
 obtain ⟨hDo, hDn, hDC, hDf, hDc⟩ := J.pin (D, { cls := .type "list", data := .seq its.toArray n }) (List.mem_append_right _ List.mem_cons_self)
 have u : Un (frs X.stack) fp H H' s.heap s'.heap := J.base
 have os : s'.os = s.os := J.os
 have lt : ∀ b ob, s.heap.get? b = some ob → b ≠ D := fun b ob e z => by
  have := Heap.lt_size e
  rw [z] at this
  exact absurd (Nat.lt_of_lt_of_le this hD) (Nat.lt_irrefl _)
 refine I.call' (ch := fp) os ⟨u.keep, u.slot, fun b ob e n hx => ?_, u.there, fun b xs e => ?_, fun b ob x e => ?_, fun b ps e => ?_⟩ ?_ J.bare (fun b hb => ?_)
 ·rw [zaa5 (lt b ob e)]; exact u.free b ob e n hx
 ·have := u.tups b xs e
  rw [zaa5 (zabd this hDn)]; exact this
 ·have := u.frzs b ob x e
  rw [zaa5 (zabd this hDn)]; exact this
 ·obtain ⟨m, q⟩ := u.tbls b ps e
  exact ⟨m, by rw [zaa5 (zabd q hDn)]; exact q⟩
 ·intro b ob e
  by_cases hb : b = D
  ·subst hb
   rw [zaal] at e; cases e
   exact ⟨hz, its, n, r, hDo⟩
  ·rw [zaa5 hb] at e
   exact (J.hok b ob e).stay (fun c v _ q => q) (fun c q => by rw [zaa5 (zabd q hDn)]; exact q) fun c xs q => by rw [zaa5 (zabd q hDn)]; exact q
 ·obtain ⟨_, f1, _, f3, f4, f5⟩ := (hf b hb).1
  exact ⟨f3, f1, f4, f5⟩
end
def PIf (X : Cx) (ifs : List Expr) (t : TT) : Prop :=
 ∀ (pins : List (Addr × Obj)) (s : Shared) (σ : St) (H : Hp) (Q : Bool → Hp → Prop), Inv X pins σ H s → t σ H Q →
  wpAny (model X.prog X.w) X.A (forIn ifs true fun c r => if r = true then do let ok ← isTrue c X.env (eval c X.env); pure (ForInStep.yield ok) else pure (ForInStep.yield r)) (TP X pins σ Q) X.xe s
def tYes : TT := fun _ H Q => Q true H
theorem zao2 {X : Cx} : PIf X [] tYes := fun _ _ _ H _ I h => wpAny_tests_nil ⟨H, I, h⟩
theorem zao3 {X : Cx} {c : Expr} {t : TT} (h : PT X c t) : PIf X [c] t := fun pins s σ H Q I q => wpAny_tests_one (h pins s σ H Q I q)
structure Comp (J : It) (g : TG) (tt : TT) (te : TE) (Q : List V → Hp → Prop) (σ : St) (H : Hp) : Prop where
 ex : ∃ W : Nat → Nat → List V → St → Hp → Prop, (∃ m, W 0 m [] σ H) ∧ ∀ i m ys σ H, W i m ys σ H → ys.length < sizeLine ∧
  ((J.stop i H ∧ Q ys H) ∨ (J.go i H ∧ ∃ N : List V → St → Hp → Prop, (∀ ys' σ' H', N ys' σ' H' → ∃ m', m' < m ∧ W (i + 1) m' ys' σ' H') ∧
    ∀ x H', J.yld i H x H' → g x σ H' fun σ2 H2 => tt σ2 H2 fun b H3 => if b = true then te σ2 H3 fun y H4 => N (ys ++ [y]) σ2 H4 else N ys σ2 H3))
section
variable {prog : Program} {w : World} {A : Around} {R : Result → Shared → Prop} {s : Shared}
theorem zags {elt target iter : Expr} {ifs : List Expr} {scope : Scope} {pos : Pos} {it acc : Value} {env : Env} (I : Nat → Shared → Prop)
  (turn : ∀ n s, I n s → wpAny (model prog w) A (pyNext it) (fun r s₁ => match r with
   | none => R (.ok .next) s₁
   | some v => wpAny (model prog w) A (letOwnedTupleGo target it v) (fun _ s₁ => wpAny (model prog w) A (assign target env v) (fun _ s₂ =>
     wpAny (model prog w) A (forIn ifs true fun c r => if r = true then do let ok ← isTrue c env (eval c env); pure (ForInStep.yield ok) else pure (ForInStep.yield r)) (fun ok s₃ =>
      if ok = true then wpAny (model prog w) A (eval elt env) (fun x s₄ =>
       wpAny (model prog w) A (call (.builtin "list.append") [acc, x]) (fun _ s₅ => ∃ m, m < n ∧ I m s₅) (fun _ _ => False) s₄) (fun _ _ => False) s₃
      else ∃ m, m < n ∧ I m s₃) (fun _ _ => False) s₂) (fun _ _ => False) s₁) (fun _ _ => False) s₁) (fun _ _ => False) s)
  (n : Nat) (h : I n s) : codeAny (model prog w) A (.compLoop (.ListComp elt [⟨target, iter, ifs, 0⟩] scope pos) 0 it acc env) R s := by
 refine codeAny_loop rfl I (fun n s hI => ?_) n h
 show wpAny _ A ((compTurn (.ListComp elt [⟨target, iter, ifs, 0⟩] scope pos) 0 it acc env).onRaise (fun x => do noteFrame x env; theTreesLotGoes x)) _ _ s
 refine wpAny_noted (wpAny_noRaise ?_)
 rw [compTurn_list]
 refine wpAny_bind (wpAny_standAt (wpAny_bind (wpAny_mono (turn n s hI) (fun r s₁ h₁ => ?_) fun _ _ h' => h')))
 cases r with
 | none => exact wpAny_pure h₁
 | some v =>
  refine wpAny_bind (wpAny_mono h₁ (fun _ s₁ h₁ => ?_) fun _ _ h' => h')
  refine wpAny_bind (wpAny_mono h₁ (fun _ s₂ h₂ => wpAny_bind (wpAny_mono h₂ (fun ok s₃ h₃ => ?_) fun _ _ h' => h')) fun _ _ h' => h')
  cases ok with
  | false => exact wpAny_pure ⟨rfl, h₃⟩
  | true =>
   exact wpAny_bind (wpAny_bind (wpAny_mono h₃ (fun x s₄ h₄ => wpAny_bind (wpAny_mono h₄ (fun _ s₅ h₅ => wpAny_pure (wpAny_pure ⟨rfl, h₅⟩)) fun _ _ h' => h')) fun _ _ h' => h'))
end
end L2

namespace L2
open PySem PySem.Spec PyProof.Rows
structure TurnX (G : Cx → Prop) (P : Program) (w : World) (K : PySem.W.Frag) (tg : Expr) (J : It) (fp : List Addr) (it : Addr) (tn : Nat → Heap → Prop) : Prop where
 obj : ∀ i h, tn i h → ∀ b ∈ fp, ∃ o, h.get? b = some o ∧ ∀ v, o.data ≠ .cell v
 keep : ∀ i h h', tn i h → (∀ b ∈ fp, ∀ o, h.get? b = some o → h'.get? b = some o) → tn i h'
 item : ∀ (X : Cx), X.prog = P → X.w = w → X.K = K → G X → ∀ (i : Nat) (pins : List (Addr × Obj)) (s : Shared) (σ : St) (H : Hp) (E : Value → Shared → Prop), Inv X pins σ H s → (∀ b ∈ fp, FpOk X pins H b) → tn i s.heap → J.go i H →
  wpAny (model P w) X.A (pyNext (.ref it)) (fun r s1 => ∃ u, r = some u ∧
   wpAny (model P w) X.A (letOwnedTupleGo tg (.ref it) u) (fun _ s2 => ∃ x H', Inv X pins σ H' s2 ∧ RelV x u ∧ J.yld i H x H' ∧ tn (i + 1) s2.heap ∧ ∀ b ∈ fp, H' b = none) E s1) E s
 done : ∀ (X : Cx), X.prog = P → X.w = w → X.K = K → G X → ∀ (i : Nat) (pins : List (Addr × Obj)) (s : Shared) (σ : St) (H : Hp) (E : Value → Shared → Prop), Inv X pins σ H s → (∀ b ∈ fp, FpOk X pins H b) → tn i s.heap → J.stop i H →
  wpAny (model P w) X.A (pyNext (.ref it)) (fun r s1 => r = none ∧ Inv X pins σ H s1) E s
 self : ∀ (A : Around) (i : Nat) (s : Shared) (Q : Value → Shared → Prop) (E : Value → Shared → Prop), tn i s.heap → Q (.ref it) s → wpAny (model P w) A (pyIter (.ref it)) Q E s
theorem Turn.x {P : Program} {w : World} {K : PySem.W.Frag} {tg : Expr} {J : It} {fp : List Addr} {it : Addr} {tn : Nat → Heap → Prop} (T : Turn P w K tg J fp it tn) : TurnX (fun X => X.calm = true) P w K tg J fp it tn := ⟨T.obj, T.keep, T.item, T.done, T.self⟩
section
variable {X : Cx} {sc : Scope} {own : List Str} {fr : List Nat} {N' : List Str} {tg elt iter : Expr} {ifs : List Expr} {g : TG} {tt : TT} {te : TE} {wi : TI} {pos : Pos}
theorem zaey {G : Cx → Prop} {pins : List (Addr × Obj)} {σ : St} {H : Hp} {s2 : Shared} {it : Addr} {fp : List Addr} {tn : Nat → Heap → Prop} {J : It} {QQ : List V → Hp → Prop} {cl : List (Str × Addr)} {RR : Value → Addr → Result → Shared → Prop} {E : Value → Shared → Prop}
  (I2 : Inv X pins σ H s2) (hc : ∀ cl C s H fp, G (cxC X sc cl N' C s H fp)) (T : TurnX G X.prog X.w X.K tg J fp it tn) (st : tn 0 s2.heap) (f2 : ∀ b ∈ fp, FpOk X pins H b) (cs : CompOk sc X.env.scope own X.N fr N')
  (h1 : ∀ x c, cl.lookup x = some c → X.env.cells.lookup x = some c) (h2 : ∀ y ∈ sc.names, y.2 = .free → ∃ c, cl.lookup y.1 = some c)
  (hg : ∀ cl C s H fp, PG (cxC X sc cl N' C s H fp) tg g) (hif : ∀ cl C s H fp, PIf (cxC X sc cl N' C s H fp) ifs tt) (he : ∀ cl C s H fp, PE (cxC X sc cl N' C s H fp) elt te)
  (KK : Comp J g tt te QQ (cst own.length fr σ) H)
  (hRR : ∀ D C m H' ys s', s2.heap.objs.size ≤ C → s'.heap.Ns C m → H' D = none → (upd H' D (.lst ys)) C = none → QQ ys H' → Inv X pins σ (upd H' D (.lst ys)) s' → RR (.ref D) C (.ok .next) s') :
  wpAny (model X.prog X.w) X.A (newList []) (fun acc s₃ => wpAny (model X.prog X.w) X.A (newFunctionEnv sc X.env.globals cl [] X.env.qual none .none (some X.env)) (fun cenv s₄ =>
   codeAny (model X.prog X.w) X.A (.compStart (.ListComp elt [⟨tg, iter, ifs, 0⟩] sc pos) 0 (.ref it) acc { cenv with scope := relabel sc X.env }) (RR acc cenv.locals) s₄) E s₃) E s2 := by
 refine wpAny_newObj_type (wpAny_newFunctionEnv cs.nocell (by intro y hy; simp at hy) (fun h₁ hns₁ hsb₁ => ?_) cs.kind)
 dsimp only at hns₁ hsb₁ ⊢
 generalize hH2 : s2.heap.push { cls := .type "list", dict := none, data := .seq ([] : List Value).toArray } = H2 at hns₁ hsb₁ ⊢
 have hC : H2.objs.size = s2.heap.objs.size + 1 := by rw [← hH2, Heap.size_push]
 have hDC : s2.heap.objs.size ≠ H2.objs.size := by rw [hC]; exact Nat.ne_of_lt (Nat.lt_succ_self _)
 have hCle : s2.heap.objs.size ≤ H2.objs.size := by rw [hC]; exact Nat.le_succ _
 have below : ∀ b, b < s2.heap.objs.size → b ≠ H2.objs.size ∧ b ≠ s2.heap.objs.size := fun b hb => ⟨by rw [hC]; exact Nat.ne_of_lt (Nat.lt_succ_of_lt hb), Nat.ne_of_lt hb⟩
 have old : ∀ b o, s2.heap.get? b = some o → h₁.get? b = some o := fun b o e => hsb₁.extBut b o (below b (Heap.lt_size e)).1 (Heap.get?_push_of_some _ (hH2 ▸ Heap.get?_push_of_some _ e))
 have hacc : h₁.get? s2.heap.objs.size = some { cls := .type "list", data := .seq ([] : List Value).toArray 0 } := hsb₁.extBut _ _ hDC (Heap.get?_push_of_some _ (hH2 ▸ Heap.get?_push_size _ rfl))
 have fpo : ∀ b ∈ fp, FpOk X pins H b ∧ ∃ o, s2.heap.get? b = some o := fun b hb => ⟨f2 b hb, let ⟨o, e, _⟩ := T.obj 0 _ st b hb; ⟨o, e⟩⟩
 have st1 : tn 0 h₁ := T.keep _ _ _ st fun b hb o e => old b o e
 have hns : h₁.Ns H2.objs.size fun _ => none := by simpa using hns₁
 obtain ⟨W, ⟨m0, w0⟩, turn⟩ := KK.ex
 have loop : ∀ s₃ : Shared, s₃ = { s2 with heap := h₁, toks := s2.toks + ([] : List (Str × Value)).length } →
   codeAny (model X.prog X.w) X.A (.compLoop (.ListComp elt [⟨tg, iter, ifs, 0⟩] sc pos) 0 (.ref it) (.ref s2.heap.objs.size) (compEnvC sc cl H2.objs.size X.env)) (RR (.ref s2.heap.objs.size) H2.objs.size) s₃ := by
  rintro s₃ rfl
  have J0 : Inv (cxC X sc cl N' H2.objs.size s2 H fp) [(s2.heap.objs.size, { cls := .type "list", data := .seq ([] : List Value).toArray 0 })] (cst own.length fr σ) H { s2 with heap := h₁, toks := s2.toks + ([] : List (Str × Value)).length } :=
   zaha I2 cs h1 h2 fpo hCle (Nat.le_refl _) hDC old hns hacc (fun v z => by cases z)
  have stat : ∀ {pl : List (Addr × Obj)} {H' : Hp}, (∀ p ∈ pl, p.1 = s2.heap.objs.size) → (∀ b ∈ fp, H' b = none) → ∀ b ∈ fp, FpOk (cxC X sc cl N' H2.objs.size s2 H fp) pl H' b := fun {pl H'} hpl hn b hb => by
   obtain ⟨f, ob, e⟩ := fpo b hb
   refine ⟨hn b hb, (below b (Heap.lt_size e)).1, fun z => ?_, .inl hb, fun x c ec => f.2.2.2.2.1 x c (h1 x c ec), fun p hp => ?_⟩
   ·have z' : b ∈ frs X.stack := z
    rcases List.mem_cons.mp (I2.stkSub b z') with q | q
    ·exact f.2.1 q
    ·exact f.2.2.1 q
   ·have hp' : p ∈ pl := hp
    rw [hpl p hp']
    exact Ne.symm (below b (Heap.lt_size e)).2
  have one : ∀ (o : Obj), ∀ p ∈ [(s2.heap.objs.size, o)], p.1 = s2.heap.objs.size := fun o p hp => by
   have : p = (s2.heap.objs.size, o) := by simpa using hp
   rw [this]
  refine zags (env := compEnvC sc cl H2.objs.size X.env) (fun n s' => ∃ i ys its k σ' H', Inv (cxC X sc cl N' H2.objs.size s2 H fp) [(s2.heap.objs.size, { cls := .type "list", data := .seq (its : List Value).toArray k })] σ' H' s' ∧ tn i s'.heap ∧ (∀ b ∈ fp, H' b = none) ∧ Vals ys its ∧ W i n ys σ' H')
   ?_ m0 ⟨0, [], [], 0, _, H, J0, st1, fun b hb => (f2 b hb).1, .nil, w0⟩
  rintro n s3 ⟨i, ys, its, k, σ3, H3, I3, st3, fr3, rv, w3⟩
  obtain ⟨hlen, alt⟩ := turn i n ys σ3 H3 w3
  rcases alt with ⟨stop, qn⟩ | ⟨go, N, hN, step⟩
  ·refine wpAny_mono (T.done (cxC X sc cl N' H2.objs.size s2 H fp) rfl rfl rfl (hc _ _ _ _ _) i _ s3 σ3 H3 (fun _ _ => False) I3 (stat (one _) fr3) st3 stop) (fun r s4 ⟨hr, I4⟩ => ?_) fun _ _ z => z
   subst hr
   obtain ⟨m, hm, _⟩ := I4.loc
   have hDn : H3 s2.heap.objs.size = none := (I4.pin (s2.heap.objs.size, { cls := .type "list", data := .seq its.toArray k }) (List.mem_append_right _ List.mem_cons_self)).2.1
   exact hRR _ _ m H3 ys s4 hCle hm hDn (by rw [zaa5 (Ne.symm hDC)]; exact I4.free) qn (zajx I2 fpo (Nat.le_refl _) I4 rv (Nat.le_of_lt hlen))
  ·refine wpAny_mono (T.item (cxC X sc cl N' H2.objs.size s2 H fp) rfl rfl rfl (hc _ _ _ _ _) i _ s3 σ3 H3 (fun _ _ => False) I3 (stat (one _) fr3) st3 go) (fun r s4 ⟨u, hr, h4⟩ => ?_) fun _ _ z => z
   subst hr
   refine wpAny_mono h4 (fun _ s5 ⟨x, H5, I5, r5, y5, st5, fr5⟩ => ?_) fun _ _ z => z
   have I5' := I5.pinned (stat (one _) fr5) (T.obj _ _ st5)
   refine wpAny_mono (hg cl H2.objs.size s2 H fp _ s5 σ3 H5 x u _ I5' r5 (step x H5 y5)) (fun _ s6 ⟨σ6, H6, I6, q6⟩ => ?_) fun _ _ z => z
   refine wpAny_mono (hif cl H2.objs.size s2 H fp _ s6 σ6 H6 _ I6 q6) (fun b s7 ⟨H7, I7, q7⟩ => ?_) fun _ _ z => z
   have fps : ∀ {σ8 : St} {H8 : Hp} {s8 : Shared}, Inv (cxC X sc cl N' H2.objs.size s2 H fp) ([(s2.heap.objs.size, { cls := .type "list", data := .seq its.toArray k })] ++ pinsAt fp s5.heap) σ8 H8 s8 →
     tn (i + 1) s8.heap ∧ ∀ b ∈ fp, H8 b = none := fun {σ8 H8 s8} I8 => by
    refine ⟨T.keep _ _ _ st5 fun b hb o e => (I8.pin (b, o) (List.mem_append_right _ (List.mem_append_right _ (zac6 hb e)))).1, fun b hb => ?_⟩
    obtain ⟨o, e, d⟩ := T.obj _ _ st5 b hb
    exact (I8.pin (b, o) (List.mem_append_right _ (List.mem_append_right _ (zac6 hb e)))).2.1
   cases b with
   | false =>
    obtain ⟨m', hm, w7⟩ := hN ys σ6 H7 q7
    exact ⟨m', hm, i + 1, ys, its, k, σ6, H7, I7.unpinned, (fps I7).1, (fps I7).2, rv, w7⟩
   | true =>
    have q7' : te σ6 H7 fun y H4 => N (ys ++ [y]) σ6 H4 := q7
    refine wpAny_mono (he cl H2.objs.size s2 H fp _ s7 σ6 H7 _ I7 q7') (fun uy s8 ⟨y, H8, I8, r8, n8⟩ => ?_) fun _ _ z => z
    obtain ⟨m', hm, w8⟩ := hN _ _ _ n8
    obtain ⟨hDo, hDn, hDL, hDf, _⟩ := I8.pin (s2.heap.objs.size, { cls := .type "list", data := .seq its.toArray k }) (List.mem_append_right _ (List.mem_append_left _ List.mem_cons_self))
    have hys : its.toArray.size ≤ sizeLine := by rw [List.size_toArray, ← rv.length]; exact Nat.le_of_lt hlen
    refine wpAny_list_append_plain (hsz := hys) (⟨k, hDo⟩ : s8.heap.PlainList s2.heap.objs.size its.toArray) fun h9 ⟨k', hl9⟩ hs9 => ?_
    have hDp : ∀ p ∈ (cxC X sc cl N' H2.objs.size s2 H fp).pn ++ pinsAt fp s5.heap, p.1 ≠ s2.heap.objs.size := fun p hp => by
     have hp' : p ∈ pinsAt fp s5.heap := by
      have hp2 : p ∈ ([] : List (Addr × Obj)) ++ pinsAt fp s5.heap := hp
      simpa using hp2
     obtain ⟨hb, _⟩ := zagd hp'
     obtain ⟨_, ob, e⟩ := fpo p.1 hb
     exact (below p.1 (Heap.lt_size e)).2
    have I8' : Inv (cxC X sc cl N' H2.objs.size s2 H fp) (pinsAt fp s5.heap) σ6 H8 s8 := I8.pins_of fun p hp => I8.pin p (List.mem_append_right _ (List.mem_append_right _ hp))
    have I9 : Inv (cxC X sc cl N' H2.objs.size s2 H fp) (pinsAt fp s5.heap) σ6 H8 { s8 with heap := h9 } := I8'.turned (t' := s8.toks) (it := s2.heap.objs.size) (fun b o hb e => (hs9.2 b hb).trans e) hDn hDL (.inr (Nat.le_refl _))
     (fun x c e z => by
      obtain ⟨v, q⟩ := I2.cell x c (h1 x c e)
      have := q.lt
      rw [z] at this
      exact absurd this (Nat.lt_irrefl _)) hDp
    have key := fps I8
    refine ⟨m', hm, i + 1, ys ++ [y], its ++ [uy], k', σ6, H8, I9.pins_of fun p hp => ?_, T.keep _ _ _ key.1 fun b hb o e => ?_, key.2, rv.append (.cons r8 .nil), w8⟩
    ·have e : p = (s2.heap.objs.size, { cls := .type "list", data := .seq (its ++ [uy]).toArray k' }) := by simpa using hp
     subst e
     refine ⟨?_, hDn, hDL, hDf, fun v z => by cases z⟩
     have : (its ++ [uy]).toArray = its.toArray.push uy := by simp
     rw [this]; exact hl9
    ·obtain ⟨_, ob, e2⟩ := fpo b hb
     exact (hs9.2 b (below b (Heap.lt_size e2)).2).trans e
 exact codeAny_compStart_list (loop _ rfl) (wpAny_mono (T.self X.A 0 _ (fun it' s' => it' = .ref it ∧ s' = { s2 with heap := h₁, toks := s2.toks + ([] : List (Str × Value)).length }) _ st1 ⟨rfl, rfl⟩) (fun it' s' ⟨e1, e2⟩ => by subst e1 e2; exact loop _ rfl) fun _ _ z => z)
def tComp (n : Nat) (fr : List Nat) (wi : TI) (g : TG) (tt : TT) (te : TE) : TE := fun σ H Q => wi σ H fun J H1 => Comp J g tt te (fun ys H2 => ∀ D, H2 D = none → Q (.ref D) (upd H2 D (.lst ys))) (cst n fr σ) H1
theorem zao4 (hc : X.calm = true) (cs : CompOk sc X.env.scope own X.N fr N') (hi : PI X tg iter wi) (hg : ∀ cl C s H fp, PG (cxC X sc cl N' C s H fp) tg g) (hif : ∀ cl C s H fp, PIf (cxC X sc cl N' C s H fp) ifs tt)
  (he : ∀ cl C s H fp, PE (cxC X sc cl N' C s H fp) elt te) (hs : ∀ x, foldedSetIterable iter X.env x = pure x := by intro _; rfl) : PE X (.ListComp elt [⟨tg, iter, ifs, 0⟩] sc pos) (tComp own.length fr wi g tt te) := by
 intro pins s σ H Q I h
 obtain ⟨cl, ecl, h1, h2⟩ := zaef (env := X.env) (sc := sc) fun y hy hf => I.ok.has y.1 (cs.fre y hy hf)
 rw [eval_ListComp]
 refine wpAny_comprehension_free (use := none) rfl hs ecl cs.kind cs.loc (thn (hi pins s σ H _ I h) fun v s1 q1 => thn q1 fun itv s2 q2 => ?_)
 obtain ⟨it, fp, tn, J, H2, rfl, I2, T, st, f2, KK⟩ := q2
 refine zaey (RR := fun acc C => compPost (model X.prog X.w) X.A X.xe none (EP X pins σ Q) acc C) I2 (fun _ _ _ _ _ => hc) T.x st f2 cs h1 h2 hg hif he KK fun D C m H' ys s' hC hn hD hCn hq I' => ?_
 refine ⟨m, hn, fun h' hs' => ⟨.ref D, upd H' D (.lst ys), ?_, rfl, hq D hD⟩⟩
 obtain ⟨f0, f1, f2, f3, f4, f5⟩ := I2.fpOk hC hCn
 exact I'.turned (t' := s'.toks) (it := C) (fun b o hb e => (hs'.2 b hb).trans e) f0 (Ne.symm (Ne.symm f1)) f3 f4 f5
def tSetC (i n : Nat) (fr : List Nat) (wi : TI) (g : TG) (tt : TT) (te : TE) : TS := fun D σ H => wi σ H fun J H1 => Comp J g tt te (fun ys H2 => ∀ p, H2 p = none → D.nx (σ.set i (some (.ref p))) (upd H2 p (.lst ys))) (cst n fr σ) H1
theorem zao5 {i : Nat} {y : Str} {py spos : Pos} (hN : X.N.Nodup) (hy : X.N[i]? = some y) (hx : Loc X.env.scope y) (hc : X.calm = true) (cs : CompOk sc X.env.scope own X.N fr N') (hi : PI X tg iter wi)
  (hg : ∀ cl C s H fp, PG (cxC X sc cl N' C s H fp) tg g) (hif : ∀ cl C s H fp, PIf (cxC X sc cl N' C s H fp) ifs tt) (he : ∀ cl C s H fp, PE (cxC X sc cl N' C s H fp) elt te)
  (hsw : swapsWith (.ListComp elt [⟨tg, iter, ifs, 0⟩] sc pos) (some (.Name y py)) spos.line X.env = pure true) (hfn : X.fn y = true ∨ X.env.scope.names.lookup y = some .local := by first | exact .inl rfl | exact .inr rfl | assumption) (hs : ∀ x, foldedSetIterable iter X.env x = pure x := by intro _; rfl) :
  PS X (.Assign [.Name y py] (.ListComp elt [⟨tg, iter, ifs, 0⟩] sc pos) spos) (tSetC i own.length fr wi g tt te) := by
 intro pins s σ H D I h
 obtain ⟨cl, ecl, h1, h2⟩ := zaef (env := X.env) (sc := sc) fun y hy hf => I.ok.has y.1 (cs.fre y hy hf)
 rw [exec_Assign_Name_used _ _ _ _ hsw]
 refine wpAny_bind (wpAny_standAt (wpAny_bind ?_))
 show wpAny _ X.A (do let _ ← comprehension (.ListComp elt [⟨tg, iter, ifs, 0⟩] sc pos) sc X.env _ (newList []) false (eval iter X.env) (some (assign (.Name y py) X.env))) _ _ s
 refine wpAny_bind (wpAny_mono (wpAny_comprehension_free (use := some (assign (.Name y py) X.env)) (Q := fun _ s' => ∃ σ' H', Inv X pins σ' H' s' ∧ D.nx σ' H') rfl hs ecl cs.kind cs.loc (thn (hi pins s σ H _ I h) fun v s1 q1 => thn q1 fun itv s2 q2 => ?_))
  (fun _ s' hq => wpAny_pure (wpAny_pure hq)) fun _ _ e => e)
 obtain ⟨it, fp, tn, J, H2, rfl, I2, T, st, f2, KK⟩ := q2
 refine zaey (RR := fun acc C => compPost (model X.prog X.w) X.A X.xe (some (assign (.Name y py) X.env)) (fun _ s' => ∃ σ' H', Inv X pins σ' H' s' ∧ D.nx σ' H') acc C) I2 (fun _ _ _ _ _ => hc) T.x st f2 cs h1 h2 hg hif he KK fun p C m H' ys s' hC hn hD hCn hq I' => ?_
 obtain ⟨f0, f1, f2, f3, f4, f5⟩ := I2.fpOk hC hCn
 show wpAny _ X.A (assign (.Name y py) X.env (.ref p)) _ _ _
 refine wpAny_assign_Name (zagc (v := .ref p) I' hN hy hx rfl (fun s'' I'' ⟨a, hsa, ha⟩ => ?_) hfn)
 have hCa : C ≠ a := by
  rcases ha with z | z
  ·rw [z]; exact f1
  ·exact Ne.symm (f4 y a z)
 refine ⟨m, hn.sameBut hsa hCa, fun h' hs' => ⟨_, _, ?_, hq p hD⟩⟩
 exact I''.turned (t' := s''.toks) (it := C) (fun b o hb e => (hs'.2 b hb).trans e) f0 f1 f3 f4 f5
end
theorem zafg {J : It} {g : TG} {tt : TT} {te : TE} {Q : List V → Hp → Prop} {σ : St} {H : Hp} (n : Nat) (Pv : Nat → List V → St → Hp → Prop) (h0 : Pv 0 [] σ H) (hl : ∀ i ys σ H, i ≤ n → Pv i ys σ H → ys.length < sizeLine)
  (go : ∀ i ys σ H, i < n → Pv i ys σ H → J.go i H) (stop : ∀ ys σ H, Pv n ys σ H → J.stop n H)
  (turn : ∀ i ys σ H, i < n → Pv i ys σ H → ∀ x H', J.yld i H x H' → g x σ H' fun σ2 H2 => tt σ2 H2 fun b H3 => if b = true then te σ2 H3 fun y H4 => Pv (i + 1) (ys ++ [y]) σ2 H4 else Pv (i + 1) ys σ2 H3)
  (after : ∀ ys σ H, Pv n ys σ H → Q ys H) : Comp J g tt te Q σ H := by
 refine ⟨fun i m ys σ H => i ≤ n ∧ m = n - i ∧ Pv i ys σ H, ⟨n, Nat.zero_le _, rfl, h0⟩, fun i m ys σ H ⟨hi, hm, p⟩ => ⟨hl i ys σ H hi p, ?_⟩⟩
 rcases Nat.lt_or_ge i n with h | h
 ·exact .inr ⟨go i ys σ H h p, Pv (i + 1), fun ys' σ' H' q => ⟨n - (i + 1), by omega, h, rfl, q⟩, turn i ys σ H h p⟩
 ·have e : i = n := Nat.le_antisymm hi h
  subst e
  exact .inl ⟨stop ys σ H p, after ys σ H p⟩
theorem zabg {lo : Int} {n : Nat} {g : TG} {tt : TT} {te : TE} {Q : List V → Hp → Prop} {σ : St} {H : Hp} (Pv : Nat → List V → St → Hp → Prop) (hn : n < sizeLine) (h0 : Pv 0 [] σ H) (hl : ∀ i ys σ H, i ≤ n → Pv i ys σ H → ys.length ≤ i)
  (turn : ∀ i ys σ H, i < n → Pv i ys σ H → g (.int (lo + i)) σ H fun σ2 H2 => tt σ2 H2 fun b H3 => if b = true then te σ2 H3 fun y H4 => Pv (i + 1) (ys ++ [y]) σ2 H4 else Pv (i + 1) ys σ2 H3)
  (after : ∀ ys σ H, Pv n ys σ H → Q ys H) : Comp (Itr lo n) g tt te Q σ H :=
 zafg n Pv h0 (fun i ys σ H hi p => Nat.lt_of_le_of_lt (Nat.le_trans (hl i ys σ H hi p) hi) hn) (fun i _ _ _ hi _ => hi) (fun _ _ _ _ => Nat.le_refl _) (fun i ys σ H hi p x H' y => by obtain ⟨rfl, rfl⟩ := y; exact turn i ys σ _ hi p) after
theorem zaeg {K : PySem.W.Frag} {a : Addr} (xs : List V) {g : TG} {tt : TT} {te : TE} {Q : List V → Hp → Prop} {σ : St} {H : Hp} (Pv : Nat → List V → St → Hp → Prop) (hn : xs.length < sizeLine) (h0 : Pv 0 [] σ H) (hl : ∀ i ys σ H, i ≤ xs.length → Pv i ys σ H → ys.length ≤ i ∧ SqL K H a xs)
  (turn : ∀ i ys σ H x, xs[i]? = some x → Pv i ys σ H → g x σ H fun σ2 H2 => tt σ2 H2 fun b H3 => if b = true then te σ2 H3 fun y H4 => Pv (i + 1) (ys ++ [y]) σ2 H4 else Pv (i + 1) ys σ2 H3)
  (after : ∀ ys σ H, Pv xs.length ys σ H → Q ys H) : Comp (Itl K a) g tt te Q σ H :=
 zafg xs.length Pv h0 (fun i ys σ H hi p => Nat.lt_of_le_of_lt (Nat.le_trans (hl i ys σ H hi p).1 hi) hn) (fun i ys σ H hi p => ⟨xs, xs[i], (hl i ys σ H (Nat.le_of_lt hi) p).2, List.getElem?_eq_getElem hi⟩)
  (fun ys σ H p => ⟨xs, (hl _ ys σ H (Nat.le_refl _) p).2, Nat.le_refl _⟩) (fun i ys σ H hi p x H' y => by obtain ⟨rfl, y⟩ := y; exact turn i ys σ _ x (y xs (hl i ys σ _ (Nat.le_of_lt hi) p).2) p) after
theorem zamr {K : PySem.W.Frag} {a : Addr} (xs : List V) {g : TG} {tt : TT} {te : TE} {Q : List V → Hp → Prop} {σ : St} {H : Hp} (Pv : Nat → List V → St → Hp → Prop) (hn : xs.length < sizeLine) (h0 : Pv 0 [] σ H) (hl : ∀ i ys σ H, i ≤ xs.length → Pv i ys σ H → ys.length ≤ i ∧ SqT K H a xs)
  (turn : ∀ i ys σ H x, xs[i]? = some x → Pv i ys σ H → g x σ H fun σ2 H2 => tt σ2 H2 fun b H3 => if b = true then te σ2 H3 fun y H4 => Pv (i + 1) (ys ++ [y]) σ2 H4 else Pv (i + 1) ys σ2 H3)
  (after : ∀ ys σ H, Pv xs.length ys σ H → Q ys H) : Comp (Itt K a) g tt te Q σ H :=
 zafg xs.length Pv h0 (fun i ys σ H hi p => Nat.lt_of_le_of_lt (Nat.le_trans (hl i ys σ H hi p).1 hi) hn) (fun i ys σ H hi p => ⟨xs, xs[i], (hl i ys σ H (Nat.le_of_lt hi) p).2, List.getElem?_eq_getElem hi⟩)
  (fun ys σ H p => ⟨xs, (hl _ ys σ H (Nat.le_refl _) p).2, Nat.le_refl _⟩) (fun i ys σ H hi p x H' y => by obtain ⟨rfl, y⟩ := y; exact turn i ys σ _ x (y xs (hl i ys σ _ (Nat.le_of_lt hi) p).2) p) after
end L2

namespace L2
open PySem PySem.Spec PyProof.Rows
section
variable {prog : Program} {w : World} {A : Around} {E : Value → Shared → Prop} {s : Shared}
end
def Itn (K : PySem.W.Frag) (k : SK) (a : Addr) : It :=
 ⟨fun i H => ∃ xs x, Sq k K H a xs ∧ xs[i]? = some x,
  fun i H v H' => ∃ T, H T = none ∧ v = .ref T ∧ ∀ xs, Sq k K H a xs → ∃ x, xs[i]? = some x ∧ H' = upd H T (.tup [.int i, x]),
  fun i H => ∃ xs, Sq k K H a xs ∧ xs.length ≤ i⟩
section
variable {X : Cx} {elts : List Expr} {kk : Nat} {tpos : Pos}
def iEnum (K : PySem.W.Frag) (k : SK) (ta : TA) : TI := fun σ H R => ta σ H fun vs H1 => ∃ a, vs = [.ref a] ∧ (∃ xs, Sq k K H1 a xs) ∧ R (Itn K k a) H1
end
theorem zaib {K : PySem.W.Frag} {k1 k2 : SK} {a b : Addr} (xs zs : List V) {g : TG} {tt : TT} {te : TE} {Q : List V → Hp → Prop} {σ : St} {H : Hp} (Pv : Nat → List V → St → Hp → Prop) (hn : xs.length < sizeLine) (hz : xs.length = zs.length) (h0 : Pv 0 [] σ H) (hl : ∀ i ys σ H, i ≤ xs.length → Pv i ys σ H → ys.length ≤ i ∧ Sq k1 K H a xs ∧ Sq k2 K H b zs)
  (turn : ∀ i ys σ H x z T, xs[i]? = some x → zs[i]? = some z → Pv i ys σ H → H T = none → g (.ref T) σ (upd H T (.tup [x, z])) fun σ2 H2 => tt σ2 H2 fun b H3 => if b = true then te σ2 H3 fun y H4 => Pv (i + 1) (ys ++ [y]) σ2 H4 else Pv (i + 1) ys σ2 H3)
  (after : ∀ ys σ H, Pv xs.length ys σ H → Q ys H) : Comp (Itz K k1 k2 a b) g tt te Q σ H :=
 zafg xs.length Pv h0 (fun i ys σ H hi p => Nat.lt_of_le_of_lt (Nat.le_trans (hl i ys σ H hi p).1 hi) hn)
  (fun i ys σ H hi p => ⟨xs, zs, xs[i], zs[i]'(hz ▸ hi), (hl i ys σ H (Nat.le_of_lt hi) p).2.1, (hl i ys σ H (Nat.le_of_lt hi) p).2.2, List.getElem?_eq_getElem hi, List.getElem?_eq_getElem (hz ▸ hi)⟩)
  (fun ys σ H p => ⟨xs, zs, (hl _ ys σ H (Nat.le_refl _) p).2.1, (hl _ ys σ H (Nat.le_refl _) p).2.2, .inl (Nat.le_refl _)⟩) (fun i ys σ H hi p x H' y => by
   obtain ⟨T, hT, rfl, y⟩ := y
   obtain ⟨u, v, e1, e2, rfl⟩ := y xs zs (hl i ys σ _ (Nat.le_of_lt hi) p).2.1 (hl i ys σ _ (Nat.le_of_lt hi) p).2.2
   exact turn i ys σ _ u v T e1 e2 p hT) after
end L2

namespace L2
open PySem PySem.Spec PyProof.Rows
section
variable {prog : Program} {w : World} {A : Around} {E : Value → Shared → Prop} {s : Shared}
end
section
variable {prog : Program} {w : World} {K : Type} [DecidableEq K] {knd : KeyKind prog w K} {A : Around} {R : Result → Shared → Prop}
end
section
variable {prog : Program} {w : World} {K : Type} [DecidableEq K] {knd : KeyKind prog w K} {A : Around} {E : Value → Shared → Prop} {s : Shared}
end
end L2

namespace L2
open PySem PySem.Spec PyProof.Rows
abbrev IsZipK (h : Heap) (z TI TO : Addr) (T : Addr) (f1 : Bool) : Prop :=
 h.get? z = some { cls := .type "zip", dict := none, data := .fields #[rawInt T, .bool f1, .bool false, .ref TI, .ref TO], slots := #[] }
section
variable {prog : Program} {w : World} {A : Around} {E : Value → Shared → Prop} {s : Shared}
end
def PairsAt (h : Heap) (us : List Value) (xs ys : List Value) : Prop := us.length ≤ xs.length ∧ us.length ≤ ys.length ∧ ∀ (j : Nat) (u : Value), us[j]? = some u → ∃ (t : Addr) (x y : Value), u = .ref t ∧ xs[j]? = some x ∧ ys[j]? = some y ∧ IsPair h t x y
section
variable {prog : Program} {w : World} {A : Around} {R : Result → Shared → Prop}
end
section
variable {prog : Program} {w : World} {A : Around} {E : Value → Shared → Prop} {s : Shared}
end
end L2

namespace L2
open PySem PySem.Spec PyProof.Rows
section
variable {X : Cx} {pins : List (Addr × Obj)} {σ : List (Option V)} {H H' : Hp} {s : Shared} {h' : Heap}
end
theorem ObjOk.has {P : Program} {w : World} {H : Hp} {h : Heap} {a : Addr} : ∀ {o : HO}, ObjOk P w H h a o → ∃ ob, h.get? a = some ob
 | .lst _, ⟨_, _, _, _, e⟩ => ⟨_, e⟩
 | .tup _, ⟨_, _, _, o, e, _⟩ => ⟨o, e⟩
 | .dK _, ⟨_, _, _, _, o, _, _, e, _⟩ => ⟨o, e⟩
 | .dT _, ⟨_, _, _, _, o, _, _, e, _⟩ => ⟨o, e⟩
 | .set _ _, ⟨o, _, _, _, e, _⟩ => ⟨o, e⟩
 | .ins _ _ _, ⟨_, _, _, e, _⟩ => ⟨_, e⟩
 | .own _, x => x
 | .xd _, ⟨_, ⟨o, _, _, e, _⟩, _⟩ => ⟨o, e⟩
 | .rng _ _, ⟨_, _, _, e⟩ => ⟨_, e⟩
 | .frz _ _, ⟨e, _⟩ => ⟨_, e⟩
 | .tbl _, e => ⟨_, e⟩
 | .met _ _, e => ⟨_, e⟩
 | .ext _, ⟨_, e, _⟩ => e
theorem HOk.has {P : Program} {w : World} {H : Hp} {h : Heap} {a : Addr} {o : HO} (x : HOk P w H h) (e : H a = some o) : ∃ ob, h.get? a = some ob := (x a o e).has
section
variable {X : Cx}
def tLZ (K : PySem.W.Frag) (k1 k2 : SK) (ta : TA) : TE := fun σ H Q => ta σ H fun vs H1 => ∃ a b xs ys, vs = [.ref a, .ref b] ∧ Sq k1 K H1 a xs ∧ Sq k2 K H1 b ys ∧ xs.length = ys.length ∧ xs.length ≤ sizeLine ∧
 ∀ (p : Addr) (ts : List Addr) (H' : Hp), Ch [] H1 H' → H1 p = none → H' p = some (.lst (ts.map V.ref)) → ts.length = xs.length →
  (∀ (i : Nat) (t : Addr) (x y : V), ts[i]? = some t → xs[i]? = some x → ys[i]? = some y → H' t = some (.tup [x, y])) → Q (.ref p) H'
def adr : Value → Addr
 | .ref a => a
 | _ => 0
theorem zahb {prog : Program} {w : World} {A : Around} {bs : List Bool} : TruthOf prog w A (fun i v => (bs.map fun b => Value.bool b).toArray[i]? = some v) (fun i => bs.getD i false) := by
 intro i v s Q E hP hQ
 have hP' : (bs.map fun b => Value.bool b)[i]? = some v := by simpa using hP
 rw [List.getElem?_map] at hP'
 cases e : bs[i]? with
 | none => rw [e] at hP'; cases hP'
 | some b =>
  rw [e] at hP'
  cases hP'
  have : bs.getD i false = b := by rw [List.getD_eq_getElem?_getD, e]; rfl
  have hQ : Q (bs.getD i false) s := hQ
  rw [this] at hQ
  exact wpAny_pure hQ
theorem zajy (bs : List Bool) : ((List.range bs.length).all fun i => bs.getD i false) = bs.all id := by
 rw [Bool.eq_iff_iff, List.all_eq_true, List.all_eq_true]
 constructor
 ·intro h b hb
  obtain ⟨i, hi, rfl⟩ := List.mem_iff_getElem.mp hb
  have := h i (List.mem_range.mpr hi)
  rw [List.getD_eq_getElem?_getD, List.getElem?_eq_getElem hi] at this
  exact this
 ·intro h i hi
  have hi := List.mem_range.mp hi
  rw [List.getD_eq_getElem?_getD, List.getElem?_eq_getElem hi]
  exact h _ (List.getElem_mem hi)
theorem zaez : ∀ {bs : List Bool} {its : List Value}, Vals (bs.map V.bl) its → its = bs.map fun b => Value.bool b
 | [], _, .nil => rfl
 | b :: bs, _, .cons r t => by rw [List.map_cons, zaez t]; cases r; rfl
theorem zac1 (hc : X.calm = true) : CallR X (.builtin "all") (fun xs H Q => ∃ (p : Addr) (bs : List Bool), xs = [.ref p] ∧ H p = some (.lst (bs.map V.bl)) ∧ Q (.bl (bs.all id)) H) := by
 intro pins s σ H xs us Q I r h
 obtain ⟨p, bs, rfl, hp, q⟩ := h
 obtain ⟨u, rfl, ru⟩ := vals1 r
 cases ru
 obtain ⟨z, its, n, rv, e⟩ := I.hok p _ hp
 have ei := zaez rv
 subst ei
 have hl : s.heap.IsList p (bs.map fun b => Value.bool b).toArray := ⟨_, e, rfl, n, rfl⟩
 refine call_all_walk (wpAny_pyIter_list hl ?_)
 have hne : p ≠ s.heap.objs.size := Nat.ne_of_lt (Heap.lt_size e)
 refine ⟨s.heap.objs.size, _, _, _, _, _, _, rfl, Walks.list (by first | exact I.ok.hd hc | (show X.A.in1.handled = none; exact I.ok.hd hc)) s.heap.objs.size p hne (bs.map fun b => Value.bool b).toArray,
  ⟨⟨_, Heap.get?_push_size _ rfl, rfl, rfl⟩, ⟨_, Heap.get?_push_of_some _ e, rfl, n, rfl⟩⟩, zahb, fun h' tk hk => ?_⟩
 have sz : (bs.map fun b => Value.bool b).toArray.size = bs.length := by simp
 rw [sz, zajy]
 exact ⟨.bl (bs.all id), H, I.kept (t' := tk) fun b o eb => hk b o (by simp; exact Nat.ne_of_lt (Heap.lt_size eb)) (Heap.get?_push_of_some _ eb), rfl, q⟩
end
end L2

namespace L2
open PySem PySem.Spec PyProof.Rows
section
variable {X : Cx} {pins : List (Addr × Obj)} {σ : St} {H : Hp} {s : Shared} {A : Around} {E : Value → Shared → Prop} {Q : Value → Shared → Prop} {b : Bool}
theorem zaiy {x : V} {u t : Value} {tp : Addr} {its : List Value} {o : Obj} {n : Nat} (I : Inv X pins σ H s) (rx : RelV x u) (ty : TyOf X.K H x t) (ho : s.heap.get? tp = some o) (hoc : o.cls = .type "tuple") (hod : o.data = .seq its.toArray n)
  (e : PySem.W.kitAny X.K t its = some b) (h : ∀ tk, Q (.bool b) { s with toks := tk }) :
  wpAny (model X.prog X.w) A (call (.builtin "isinstance") [u, .ref tp]) Q E s := by
 obtain ⟨c0, d0, t0, l0⟩ := o
 replace hoc : c0 = .type "tuple" := hoc
 replace hod : t0 = .seq its.toArray n := hod
 subst hoc hod
 cases ty with
 | non => cases (show u = Value.none from rx); exact PySem.W.kia_tup PySem.W.kitx_none I.kIn True.intro ho e (fun z => nomatch z) h
 | bl y => cases (show u = Value.bool y from rx); exact PySem.W.kia_tup PySem.W.kitx_bool I.kIn True.intro ho e (fun z => nomatch z) h
 | int i => obtain ⟨t, q⟩ := (show ∃ t, u = Value.int i t from rx); cases q; exact PySem.W.kia_tup PySem.W.kitx_int I.kIn True.intro ho e (fun z => nomatch z) h
 | str y => obtain ⟨t, q⟩ := (show ∃ t, u = Value.str y t from rx); cases q; exact PySem.W.kia_tup PySem.W.kitx_str I.kIn True.intro ho e (fun z => nomatch z) h
 | flt y => obtain ⟨t, q⟩ := (show ∃ t, u = Value.float y t from rx); cases q; exact PySem.W.kia_tup PySem.W.kitx_float I.kIn True.intro ho e (fun z => nomatch z) h
 | @lst a xs ea =>
  cases (show u = Value.ref a from rx)
  obtain ⟨_, _, n, _, h1⟩ := (show ObjOk X.prog X.w H s.heap a (.lst xs) from I.hok a _ ea)
  exact PySem.W.kia_tup PySem.W.kitx_list I.kIn ⟨_, h1, rfl⟩ ho e (fun z => nomatch z) h
 | @frz a ob xs ea =>
  cases (show u = Value.ref a from rx)
  obtain ⟨_, _, _, n, _, h1⟩ := (show ObjOk X.prog X.w H s.heap a (.frz ob (.lst xs)) from I.hok a _ ea)
  exact PySem.W.kia_tup PySem.W.kitx_list I.kIn ⟨_, h1, rfl⟩ ho e (fun z => nomatch z) h
 | @tup a xs ea =>
  cases (show u = Value.ref a from rx)
  obtain ⟨_, _, _, p⟩ := (show ObjOk X.prog X.w H s.heap a (.tup xs) from I.hok a _ ea)
  obtain ⟨o, h1, h2, _⟩ := p
  exact PySem.W.kia_tup PySem.W.kitx_tuple I.kIn ⟨o, h1, h2⟩ ho e (fun z => nomatch z) h
 | @dK a kvs ea =>
  cases (show u = Value.ref a from rx)
  obtain ⟨_, _, vs, _, p⟩ := (show ObjOk X.prog X.w H s.heap a (.dK kvs) from I.hok a _ ea)
  obtain ⟨o, es, ep, h1, h2, _⟩ := p
  exact PySem.W.kia_tup PySem.W.kitx_dict I.kIn ⟨o, h1, h2.1⟩ ho e (fun z => nomatch z) h
 | @dT a kvs ea =>
  cases (show u = Value.ref a from rx)
  obtain ⟨_, _, xs, _, o, es, ep, h1, h2, _⟩ := (show ObjOk X.prog X.w H s.heap a (.dT kvs) from I.hok a _ ea)
  exact PySem.W.kia_tup PySem.W.kitx_dict I.kIn ⟨o, h1, h2.1⟩ ho e (fun z => nomatch z) h
 | @ins a C dx fs ea cl ha hn htk hm =>
  cases (show u = Value.ref a from rx)
  obtain ⟨mA, O, _⟩ := zae9 I.hok ea
  obtain ⟨od, J, _⟩ := O.look
  exact PySem.W.kia_tup (PySem.W.kitx_own (cl.get _) cl.hd ha hn htk hm) I.kIn J ho e (fun z => nomatch z) h
end
def rIsTs (K : PySem.W.Frag) : List V → Hp → VK → Prop := fun xs H Q => ∃ (x : V) (p : Addr) (Ts : List String) (t : Value) (b : Bool), xs = [x, .ref p] ∧ H p = some (.tup (Ts.map V.ty)) ∧ TyOf K H x t ∧ PySem.W.kitAny K t (Ts.map Value.type) = some b ∧ Q (.bl b) H
theorem zaic : ∀ {Ts : List String} {us : List Value}, Vals (Ts.map V.ty) us → us = Ts.map Value.type
 | [], _, .nil => rfl
 | T :: Ts, _, .cons r t => by rw [List.map_cons, zaic t]; cases r; rfl
theorem zajz {X : Cx} : CallR X (.builtin "isinstance") (rIsTs X.K) := by
 intro pins s σ H xs us Q I r h
 obtain ⟨x, p, Ts, t, b, rfl, hp, ty, e, q⟩ := h
 obtain ⟨u, v, rfl, ru, rv⟩ := vals2 r
 cases rv
 obtain ⟨_, its, rt, o, ho, hoc, n, hod⟩ := I.hok p _ hp
 have := zaic rt
 subst this
 exact zaiy I ru ty ho hoc hod e fun tk => ⟨.bl b, H, I.tok _, rfl, q⟩
example (K : PySem.W.Frag) : PySem.W.kitAny K (.type "list") [.type "list", .type "tuple"] = some true := rfl
example (K : PySem.W.Frag) : PySem.W.kitAny K (.type "tuple") [.type "list", .type "tuple"] = some true := rfl
example (K : PySem.W.Frag) : PySem.W.kitAny K (.type "int") [.type "list", .type "tuple"] = some false := rfl
end L2

namespace L2
open PySem PySem.Spec PyProof.Rows
structure MethOk (P : Program) (w : World) (K : PySem.W.Frag) (mg : Str → Option Value) (base : Heap) (CX : CXT) (k : Nat) (C : Addr) (m : Str) (ps : List Str) (sp : Sp) : Prop where
 cl : Cls K C
 ex : ∃ (f : Addr) (fd : FuncData), FnOk P w K mg base CX k f fd ps sp ∧ Binds K fd ps [] ∧ Meth K C m f
structure MakeOk (P : Program) (w : World) (K : PySem.W.Frag) (mg : Str → Option Value) (base : Heap) (CX : CXT) (k : Nat) (C : Addr) (x : Str) (ps : List Str) (sp : Sp) : Prop where
 ex : ∃ (f : Addr) (fd : FuncData), FnOk P w K mg base CX k f fd ps sp ∧ Binds K fd ps [] ∧ Mk K C f ∧ mg x = some (.ref C)
theorem MakeOk.mono {P : Program} {w : World} {K : PySem.W.Frag} {mg : Str → Option Value} {base : Heap} {CX : CXT} {j k : Nat} {C : Addr} {x : Str} {ps : List Str} {sp : Sp} (D : MakeOk P w K mg base CX j C x ps sp) (h : j ≤ k) : MakeOk P w K mg base CX k C x ps sp := by
 obtain ⟨f, fd, F, b⟩ := D.ex
 exact ⟨f, fd, F.mono h, b⟩
section
variable {X : Cx} {CX : CXT} {k : Nat} {C : Addr} {ps : List Str} {sp : Sp} {E : XK} {x m : Str} {p pos apos : Pos} {e o : Expr} {es : List Expr} {ta : TE} {t : TA}
theorem zaj0 (D : MakeOk X.prog X.w X.K X.mg X.base CX k C x ps sp) (hr : Room (k + 1) X.A) (hg : Gl X x) (hx : Passes CX X E)
  (ha : Pr (PA X (e :: es) t)) (hdb : (x == ("__debug__" : Str)) = false := by decide) (he : starEach (e :: es) X.env = (false, eval e X.env) :: starEach es X.env := by rfl) (hpl : (backTo pos (starEach es X.env)).any (·.1) = false := by rfl) :
  Pr (PE X (.Call (.Name x p) (e :: es) [] pos) (tMake C sp [] E t)) := by
 obtain ⟨f, fd, F, b, M, hm⟩ := D.ex
 exact ⟨zaoo M F hr hg hm b .nil hx ha.h hdb he hpl⟩
end
section
variable {X : Cx} {sc : Scope} {own : List Str} {fr : List Nat} {N' : List Str} {tg elt iter : Expr} {ifs : List Expr} {g : TG} {tt : TT} {te : TE} {wi : TI} {pos : Pos}
theorem zabh : Pr (PIf X [] tYes) := ⟨zao2⟩
theorem zafh {c : Expr} {t : TT} (h : Pr (PT X c t)) : Pr (PIf X [c] t) := ⟨zao3 h.h⟩
theorem zabb (hc : X.calm = true) (cs : CompOk sc X.env.scope own X.N fr N') (hi : Pr (PI X tg iter wi)) (hg : ∀ cl C s H fp, Pr (PG (cxC X sc cl N' C s H fp) tg g)) (hif : ∀ cl C s H fp, Pr (PIf (cxC X sc cl N' C s H fp) ifs tt))
  (he : ∀ cl C s H fp, Pr (PE (cxC X sc cl N' C s H fp) elt te)) (hs : ∀ x, foldedSetIterable iter X.env x = pure x := by intro _; rfl) : Pr (PE X (.ListComp elt [⟨tg, iter, ifs, 0⟩] sc pos) (tComp own.length fr wi g tt te)) :=
 ⟨zao4 hc cs hi.h (fun a b c d e => (hg a b c d e).h) (fun a b c d e => (hif a b c d e).h) (fun a b c d e => (he a b c d e).h) hs⟩
theorem zams {i : Nat} {y : Str} {py spos : Pos} (hN : X.N.Nodup) (hy : X.N[i]? = some y) (hx : Loc X.env.scope y) (hc : X.calm = true) (cs : CompOk sc X.env.scope own X.N fr N') (hi : Pr (PI X tg iter wi))
  (hg : ∀ cl C s H fp, Pr (PG (cxC X sc cl N' C s H fp) tg g)) (hif : ∀ cl C s H fp, Pr (PIf (cxC X sc cl N' C s H fp) ifs tt)) (he : ∀ cl C s H fp, Pr (PE (cxC X sc cl N' C s H fp) elt te))
  (hsw : swapsWith (.ListComp elt [⟨tg, iter, ifs, 0⟩] sc pos) (some (.Name y py)) spos.line X.env = pure true) (hfn : X.fn y = true ∨ X.env.scope.names.lookup y = some .local := by first | exact .inl rfl | exact .inr rfl | assumption) (hs : ∀ x, foldedSetIterable iter X.env x = pure x := by intro _; rfl) :
  Pr (PS X (.Assign [.Name y py] (.ListComp elt [⟨tg, iter, ifs, 0⟩] sc pos) spos) (tSetC i own.length fr wi g tt te)) :=
 ⟨zao5 hN hy hx hc cs hi.h (fun a b c d e => (hg a b c d e).h) (fun a b c d e => (hif a b c d e).h) (fun a b c d e => (he a b c d e).h) hsw hfn hs⟩
theorem zagt {o e f : Expr} {td ty tx : TE} {apos cpos : Pos} (hu : X.A.units + 1 < cLine) (ho : Pr (PE X o td)) (he : Pr (PE X e ty)) (hf : Pr (PE X f tx)) (m : M2 X o "get" apos e f cpos) : Pr (PE X (.Call (.Attribute o "get" apos) [e, f] [] cpos) (tDGet2 td ty tx)) := ⟨zaml hu ho.h he.h hf.h m⟩
theorem compOk {sc outer : Scope} {own N : List Str} {fr : List Nat} {N' : List Str} (h1 : sc.kind = .function) (h2 : ∀ y ∈ sc.names, y.2 ≠ .cell) (h3 : ∀ y ∈ sc.names, y.2 = .local → sc.names.lookup y.1 = some .local)
  (h4 : ∀ y ∈ sc.names, y.2 = .free → outer.names.lookup y.1 = some .cell ∨ outer.names.lookup y.1 = some .free) (h5 : N'.Nodup) (h6 : N'.map some = own.map some ++ fr.map fun j => N[j]?)
  (h7 : ∀ x ∈ fr.filterMap (fun j => N[j]?), sc.names.lookup x = some .free ∧ (outer.names.lookup x = some .cell ∨ outer.names.lookup x = some .free)) : CompOk sc outer own N fr N' :=
 ⟨h1, h2, h3, h4, h5, h6, fun j hj x hx => h7 x (List.mem_filterMap.mpr ⟨j, hj, hx⟩)⟩
end
def rIsT2 (K : PySem.W.Frag) : List V → Hp → VK → Prop := fun xs H Q => ∃ (x : V) (p : Addr) (T1 T2 : String) (t : Value) (b : Bool), xs = [x, .ref p] ∧ H p = some (.tup [.ty T1, .ty T2]) ∧ TyOf K H x t ∧ PySem.W.kitAny K t [.type T1, .type T2] = some b ∧ Q (.bl b) H
theorem zaj1 {X : Cx} : CallR X (.builtin "isinstance") (rIsT2 X.K) := fun pins s σ H xs us Q I r h => by
 obtain ⟨x, p, T1, T2, t, b, e, hp, ty, k, q⟩ := h
 exact zajz pins s σ H xs us Q I r ⟨x, p, [T1, T2], t, b, e, hp, ty, k, q⟩
theorem iteNn {c : Prop} [Decidable c] {A B : Prop} (hc : c) (h : B) : if (!decide c) = true then A else B := by rw [if_neg (by simp [hc])]; exact h
def Tu (H H' : Hp) : Prop := ∀ b xs, H b = some (.tup xs) → H' b = some (.tup xs)
theorem Tu.refl (H : Hp) : Tu H H := fun _ _ h => h
theorem Tu.trans {H H1 H2 : Hp} (a : Tu H H1) (b : Tu H1 H2) : Tu H H2 := fun c xs h => b c xs (a c xs h)
theorem Tu.same {H H' : Hp} (c : Ch [] H H') : Tu H H' := fun b xs h => c b _ h (by simp)
theorem Tu.ch {H H' : Hp} {b : Addr} {o : HO} (c : Ch [b] H H') (hb : H b = some o) (ho : ∀ xs, o ≠ .tup xs) : Tu H H' := fun d xs h => c d _ h (by
 intro z
 have e : d = b := by simpa using z
 subst e
 rw [hb] at h
 exact ho xs (Option.some.inj h))
theorem Tu.lst {H H' : Hp} {b : Addr} {ys : List V} (c : Ch [b] H H') (hb : H b = some (.lst ys)) : Tu H H' := Tu.ch c hb (fun xs z => by cases z)
end L2

namespace L2
open PySem PySem.Spec PyProof.Rows
section
variable {X : Cx} {a b o e value : Expr} {es : List Expr} {f : Str} {ta tb te : TE} {pos : Pos} {tg l : Expr}
theorem zadm (K : PySem.W.Frag) (hK : X.K = K) : IxR X (aIxL K) := hK ▸ zabn
theorem zac8 (K : PySem.W.Frag) (hK : X.K = K) : IxR X (aIxT K) := hK ▸ zaa9
theorem zadr (K : PySem.W.Frag) (hK : X.K = K) : OpR X (compareOp .In) (rIn K false) := hK ▸ zagk
theorem zaid (K : PySem.W.Frag) (hK : X.K = K) (he : Pr (PE X e ta)) (hb : attributeBase e f X.env (eval e X.env) = eval e X.env) : Pr (PE X (.Attribute e f pos) (tFld K ta f)) := hK ▸ ⟨zann he.h hb⟩
theorem zafi (K : PySem.W.Frag) (n : Nat) (hK : X.K = K) {k : Nat} {t : TGs} (hc : X.calm = true) (h : Pr (PGs X es t)) (hn : (assignEach es X.env).length = n := by rfl) (hst : (assignEach es X.env).findIdx? (·.1) = none := by rfl) :
  Pr (PG X (.Tuple es k pos) (gTup K n t)) := hK ▸ ⟨zanl hc h.h hn hst⟩
end
end L2

namespace L2
open PySem PySem.Spec PyProof.Rows
theorem zaj2 (f : Array Value → Array Value) (o : Obj) : (o.mapFields f).dict = o.dict := by
 obtain ⟨_, _, d, _⟩ := o
 cases d <;> rfl
structure Fl (h : Heap) (e C : Addr) (dx : Option Addr) (T : Addr) (fl : Value) : Prop where
 ob : ∃ oe vs, h.get? e = some oe ∧ (oe.cls = .ref C ∧ oe.dict = dx) ∧ oe.data = .fields vs ∧ vs[1]? = some (.ref T) ∧ vs[2]? = some .none
 tb : ∃ oT ts, h.get? T = some oT ∧ oT.data = .fields ts ∧ ts[3]? = some fl
 ne : T ≠ e
def KB (ex fs : List Addr) (h h' : Heap) : Prop := ∀ b o, h.get? b = some o → b ∉ ex → (b ∉ fs → h'.get? b = some o) ∧ ∃ sl, h'.get? b = some { o with slots := sl }
theorem KB.trans {ex ex' fs : List Addr} {h h1 h2 : Heap} (a : KB ex fs h h1) (b : KB ex' fs h1 h2) : KB (ex ++ ex') fs h h2 := fun c o e n => by
 simp only [List.mem_append, not_or] at n
 obtain ⟨k1, sl, k2⟩ := a c o e n.1
 refine ⟨fun hf => (b c o (k1 hf) n.2).1 hf, ?_⟩
 obtain ⟨_, sl', k3⟩ := b c _ k2 n.2
 exact ⟨sl', k3⟩
section
variable {M : Model} {A : Around} {E : Value → Shared → Prop} {s : Shared} {base : Heap} {env : Env} {outer : List Env} {L e C T : Addr} {dx : Option Addr} {Q : Unit → Shared → Prop}
theorem zaie {oe : Obj} {vs : Array Value} {head : Value} {hn : Bool} (hfr : A.frames = some (env :: outer)) (hl : s.heap.FunFrames base (env :: outer)) (hf : env.frame = some L)
  (ge : s.heap.get? e = some oe) (gc : oe.cls = .ref C ∧ oe.dict = dx) (gd : oe.data = .fields vs) (g1 : 1 < vs.size) (g2 : vs[2]? = some .none)
  (k : ∀ h' T, KB [e] (frs (env :: outer)) s.heap h' → Fl h' e C dx T (rawInt L) → s.heap.get? T = none → Q () { s with heap := h' }) :
  wpAny M A (do
   let fo ← frameOf env
   let pl ← entryPlaceOf L hn
   let en ← EntryCells.newEntry head fo .none (rawInt L) .none pl
   setField (.ref e) 1 en) Q E s := by
 have nf : e ∉ frs (env :: outer) := fun z => by
  obtain ⟨_, o, ho, no⟩ := hl.mem z
  rw [ge] at ho
  cases ho
  exact no vs gd
 refine wpAny_bind (wpAny_frameOf_fun hfr hl hf fun ha so => ?_)
 refine wpAny_bind (wpAny_entryPlaceOf fun pl ip => ?_)
 unfold EntryCells.newEntry newFields
 refine wpAny_bind (wpAny_newObj_type ?_ (ip.sizeOk5 _ _ _ _ _))
 have ea : ha.get? e = some oe := by rw [so.2.1 e nf]; exact ge
 have neT : ha.objs.size ≠ e := Nat.ne_of_gt (Heap.lt_size ea)
 refine wpAny_setField (Heap.get?_push_of_some _ ea) gd g1 (k _ ha.objs.size (fun b o hb hbe => ?_) ⟨⟨_, _, Heap.get?_update_self _ (Heap.get?_push_of_some _ ea) (Obj.isFreed_of_fields (Obj.data_mapFields gd _)), ?_, Obj.data_mapFields gd _, ?_, ?_⟩, ?_, neT⟩ ?_)
 ·have n1 : e ≠ b := fun z => hbe (by simp [z])
  obtain ⟨sl, q⟩ := so.2.2 b o hb
  refine ⟨fun nb => ?_, sl, ?_⟩
  ·rw [Heap.get?_update_other _ _ n1]
   refine Heap.get?_push_of_some _ ?_
   rw [so.2.1 b nb]
   exact hb
  ·rw [Heap.get?_update_other _ _ n1]
   exact Heap.get?_push_of_some _ q
 ·rw [Obj.cls_mapFields, zaj2]; exact gc
 ·simp [g1]
 ·rw [Array.getElem?_setIfInBounds_ne (by decide)]; exact g2
 ·have q := (Heap.get?_update_other (ha.push { cls := .type "traceback", dict := none, data := .fields ([head, .ref L, .none, rawInt L, .none] ++ (if pl.isEmpty then List.replicate 6 Value.none else pl)).toArray }) (Obj.mapFields (·.setIfInBounds 1 (Value.ref ha.objs.size))) (Ne.symm neT)).trans (Heap.get?_push_size ha rfl)
  refine ⟨_, _, q, rfl, ?_⟩
  rcases ip with rfl | ⟨_, _, _, _, _, _, _, rfl⟩ <;> simp
 ·exact Heap.get?_none_of_le (by rw [so.1]; exact Nat.le_refl _)
theorem zahc {fl : Value} (f : Fl s.heap e C dx T fl) (k : ∀ h', KB [T] [] s.heap h' → Fl h' e C dx T .none → Q () { s with heap := h' }) : wpAny M A (setFlight (.ref e) none) Q E s := by
 obtain ⟨⟨oe, vs, a1, a2, a3, a4, a5⟩, ⟨oT, ts, b1, b2, b3⟩, nT⟩ := f
 have sz : 3 < ts.size := (Array.getElem?_eq_some_iff.mp b3).1
 unfold setFlight
 refine wpAny_bind (wpAny_field a1 a3 a4 ?_)
 rw [if_pos (by simp : (Value.ref T != Value.none) = true)]
 refine wpAny_setField b1 b2 sz (k _ (fun b o hb nb => ?_) ⟨⟨oe, vs, ?_, a2, a3, a4, a5⟩, ⟨_, _, Heap.get?_update_self _ b1 (Obj.isFreed_of_fields (Obj.data_mapFields b2 _)), Obj.data_mapFields b2 _, ?_⟩, nT⟩)
 ·have n1 : T ≠ b := fun z => nb (by simp [z])
  rw [Heap.get?_update_other _ _ n1]
  exact ⟨fun _ => hb, o.slots, hb⟩
 ·rw [Heap.get?_update_other _ _ nT]
  exact a1
 ·simp [sz]
theorem zamt {oe : Obj} {vs : Array Value} (hfr : A.frames = some (env :: outer)) (hl : s.heap.FunFrames base (env :: outer)) (hf : env.frame = some L)
  (ge : s.heap.get? e = some oe) (gc : oe.cls = .ref C ∧ oe.dict = dx) (gd : oe.data = .fields vs) (g1 : vs[1]? = some .none) (g2 : vs[2]? = some .none)
  (k : ∀ h' T, KB [e] (frs (env :: outer)) s.heap h' → Fl h' e C dx T (rawInt L) → s.heap.get? T = none → Q () { s with heap := h' }) : wpAny M A (noteFrame (.ref e) env) Q E s := by
 unfold noteFrame
 simp only [hf]
 refine wpAny_bind (wpAny_field ge gd g1 ?_)
 rw [if_neg (by decide)]
 exact zaie hfr hl hf ge gc gd (Array.getElem?_eq_some_iff.mp g1).1 g2 k
theorem zao6 {T0 : Addr} (hfr : A.frames = some (env :: outer)) (hl : s.heap.FunFrames base (env :: outer)) (hf : env.frame = some L) (f : Fl s.heap e C dx T0 .none)
  (k : ∀ h' T, KB [T0, e] (frs (env :: outer)) s.heap h' → Fl h' e C dx T (rawInt L) → s.heap.get? T = none → Q () { s with heap := h' }) : wpAny M A (noteFrame (.ref e) env) Q E s := by
 obtain ⟨⟨oe, vs, a1, a2, a3, a4, a5⟩, ⟨oT, ts, b1, b2, b3⟩, nT⟩ := f
 unfold noteFrame
 simp only [hf]
 refine wpAny_bind (wpAny_field a1 a3 a4 ?_)
 rw [if_pos (by simp : (Value.ref T0 != Value.none) = true)]
 refine wpAny_bind (wpAny_field b1 b2 b3 ?_)
 rw [if_neg (by simp [rawInt] : ¬ ((Value.none == rawInt L) = true))]
 refine wpAny_bind (wpAny_setField b1 b2 (Array.getElem?_eq_some_iff.mp b3).1 ?_)
 have nfT : ∀ b o, s.heap.get? b = some o → (∀ ws, o.data ≠ .fields ws) → T0 ≠ b := fun b o hb hn z => by
  rw [← z, b1] at hb
  cases hb
  exact hn ts b2
 have same : ∀ b, T0 ≠ b → (s.heap.update T0 (Obj.mapFields (·.setIfInBounds 3 Value.none))).get? b = s.heap.get? b := fun b n => Heap.get?_update_other _ _ n
 have kb : KB [T0] (frs (env :: outer)) s.heap (s.heap.update T0 (Obj.mapFields (·.setIfInBounds 3 Value.none))) := fun b o hb nb => by
  have n1 : T0 ≠ b := fun z => nb (by simp [z])
  rw [same b n1]
  exact ⟨fun _ => hb, o.slots, hb⟩
 refine zaie hfr (hl.of_keeps fun b o hb hn => ⟨o, by rw [same b (nfT b o hb hn)]; exact hb, rfl⟩) hf (by rw [same e nT]; exact a1) a2 a3 (Array.getElem?_eq_some_iff.mp a4).1 a5 fun h' T kb' f' n' => k h' T (kb.trans kb') f' ?_
 cases q : s.heap.get? T with
 | none => rfl
 | some o =>
  by_cases z : T0 = T
  ·have := Heap.get?_update_self (Obj.mapFields (·.setIfInBounds 3 Value.none)) b1 (Obj.isFreed_of_fields (Obj.data_mapFields b2 _))
   rw [z] at this
   rw [← z] at n'
   rw [z] at n'
   rw [this] at n'
   cases n'
  ·rw [same T z] at n'
   rw [n'] at q
   cases q
end
end L2

namespace L2
open PySem PySem.Spec PyProof.Rows
def CXE (P : Program) (w : World) : CXT := fun outer H s E e s' => ∃ (ea C T : Addr) (dx : Option Addr) (H' : Hp), e = .ref ea ∧ s'.os = s.os ∧ AllBare s'.gens ∧ Un (frs outer) [] H H' s.heap s'.heap ∧ HOk P w H' s'.heap ∧ Fl s'.heap ea C dx T .none ∧
 s.heap.get? ea = none ∧ s.heap.get? T = none ∧ H' ea = none ∧ H' T = none ∧ E (.ref C) dx H'
theorem KB.fs {ex fs : List Addr} {h h' : Heap} (a : KB ex [] h h') : KB ex fs h h' := fun b o e n => ⟨fun _ => (a b o e n).1 (by simp), (a b o e n).2⟩
theorem Un.fly {fs ex xs gs : List Addr} {H H1 : Hp} {h h1 h2 : Heap} (u : Un fs ex H H1 h h1) (kb : KB xs gs h1 h2) (hx : ∀ b ∈ xs, h.get? b = none) (hg : ∀ b ∈ gs, (∃ o, h.get? b = some o) → b ∈ fs) : Un fs ex H H1 h h2 where
 keep := fun b o e n hf hx' => (kb b o (u.keep b o e n hf hx') fun z => by rw [hx b z] at e; cases e).1 fun z => hf (hg b z ⟨o, e⟩)
 slot := fun b o e n hf hx' => by
  obtain ⟨sl, q⟩ := u.slot b o e n hf hx'
  obtain ⟨_, sl', q'⟩ := kb b _ q fun z => by rw [hx b z] at e; cases e
  exact ⟨sl', q'⟩
 free := u.free
 there := fun b o e hx' => by
  obtain ⟨o', q⟩ := u.there b o e hx'
  obtain ⟨_, sl', q'⟩ := kb b _ q fun z => by rw [hx b z] at e; cases e
  exact ⟨_, q'⟩
 tups := u.tups
 frzs := u.frzs
 tbls := u.tbls
theorem HOk.fly {P : Program} {w : World} {H : Hp} {h h' : Heap} {xs gs : List Addr} (x : HOk P w H h) (kb : KB xs gs h h') (hx : ∀ b ∈ xs, H b = none) (hg : ∀ b ∈ gs, H b = none) : HOk P w H h' := fun a o e =>
 (x a o e).stay (fun b u hb q => by
  have t : H b ≠ none := by
   rcases hb with rfl | hb
   ·rw [e]; intro z; cases z
   ·rw [hb]; intro z; cases z
  exact (kb b u q fun z => t (hx b z)).1 fun z => t (hg b z)) (fun _ q => q) fun _ _ q => q
section
variable {X : Cx} {pins : List (Addr × Obj)} {σ : St} {H H' : Hp} {s s' : Shared}
theorem Inv.fly {h' : Heap} {ex : List Addr} (I : Inv X pins σ H s) (kb : KB ex (frs X.stack) s.heap h')
  (hx : ∀ b ∈ ex, X.s₀.heap.get? b = none ∧ H b = none ∧ b ≠ X.env.locals ∧ (∀ x c, X.env.cells.lookup x = some c → c ≠ b) ∧ ∀ p ∈ X.pn ++ pins, p.1 ≠ b) : Inv X pins σ H { s with heap := h' } := by
 have cellK : ∀ x c v, X.env.cells.lookup x = some c → s.heap.IsCell c v → h'.IsCell c v := fun x c v e ⟨o, ho, hd⟩ => by
  obtain ⟨_, sl, q⟩ := kb c o ho fun z => (hx c z).2.2.2.1 x c e rfl
  exact ⟨_, q, hd⟩
 refine ⟨I.ok, I.os, I.bare, I.base.fly kb (fun b z => (hx b z).1) (fun b z ⟨o, e⟩ => ?_), ?_, fun x c e => ?_, I.free, I.freeC, fun p hp => ?_, I.hok.fly kb (fun b z => (hx b z).2.1) I.stkFree, I.len⟩
 ·rcases List.mem_cons.mp (I.stkSub b z) with y | y
  ·rw [y] at e
   exact absurd (Heap.lt_size e) (Nat.not_lt.mpr I.ok.above)
  ·exact y
 ·obtain ⟨m, ⟨o, es, ep, ho, r⟩, l⟩ := I.loc
  obtain ⟨_, sl, q⟩ := kb _ o ho fun z => (hx _ z).2.2.1 rfl
  refine ⟨m, ⟨_, es, ep, q, r⟩, fun i x v h1 h2 h3 => ?_⟩
  obtain ⟨u, ru, lk⟩ := l i x v h1 h2 h3
  refine ⟨u, ru, ?_⟩
  rcases lk with a | ⟨a, c, b1, b2⟩
  ·exact .inl a
  ·exact .inr ⟨a, c, b1, cellK x c _ b1 b2⟩
 ·obtain ⟨v, q⟩ := I.cell x c e
  exact ⟨v, cellK x c v e q⟩
 ·obtain ⟨a, b, c, d, e⟩ := I.pin p hp
  exact ⟨(kb _ _ a fun z => (hx _ z).2.2.2.2 p hp rfl).1 fun z => (List.mem_cons.mp (I.stkSub _ z)).elim c d, b, c, d, e⟩
theorem Inv.alien (I : Inv X pins σ H s) {b : Addr} (n : s.heap.get? b = none) : b ≠ X.env.locals ∧ (∀ x c, X.env.cells.lookup x = some c → c ≠ b) ∧ ∀ p ∈ X.pn ++ pins, p.1 ≠ b := by
 refine ⟨fun z => ?_, fun x c e z => ?_, fun p hp z => ?_⟩
 ·obtain ⟨m, ⟨o, es, ep, ho, r⟩, l⟩ := I.loc
  rw [← z, n] at ho
  cases ho
 ·obtain ⟨v, o, ho, _⟩ := I.cell x c e
  rw [z, n] at ho
  cases ho
 ·have := (I.pin p hp).1
  rw [z, n] at this
  cases this
theorem Inv.alien0 (I : Inv X pins σ H s) (hex : X.ex = []) {b : Addr} (n : s.heap.get? b = none) : X.s₀.heap.get? b = none := by
 cases q : X.s₀.heap.get? b with
 | none => rfl
 | some o =>
  obtain ⟨o', z⟩ := I.base.there b o q (by rw [hex]; simp)
  rw [n] at z
  cases z
theorem HOk.alien {P : Program} {w : World} {H : Hp} {h : Heap} {b : Addr} (x : HOk P w H h) (n : h.get? b = none) : H b = none := by
 cases q : H b with
 | none => rfl
 | some o =>
  obtain ⟨o', z⟩ := x.has q
  rw [n] at z
  cases z
end
section
variable {P : Program} {w : World} {K : PySem.W.Frag} {mg : Str → Option Value} {base : Heap} {N : List Str} {qual : Str} {scope : Scope} {f : Addr} {cd : Value} {A : Around} {outer : List Env} {s₀ : Shared} {H₀ : Hp} {E : XK}
abbrev cxE (P : Program) (w : World) (K : PySem.W.Frag) (mg : Str → Option Value) (base : Heap) (N : List Str) (qual : Str) (scope : Scope) (f : Addr) (cd : Value) (A : Around) (outer : List Env) (s₀ : Shared) (H₀ : Hp) (E : XK) : Cx :=
 cxOf (CXE P w) P w K mg base N qual scope f cd A outer s₀ H₀ E
theorem zaq4 {X : Cx} {pins : List (Addr × Obj)} {σ : St} {H : Hp} {s : Shared} (I : Inv X pins σ H s) : ∀ b ∈ frs X.stack, (∃ o, X.s₀.heap.get? b = some o) → b ∈ X.fs := fun b z ⟨o, e⟩ => by
 rcases List.mem_cons.mp (I.stkSub b z) with y | y
 ·rw [y] at e
  exact absurd (Heap.lt_size e) (Nat.not_lt.mpr I.ok.above)
 ·exact y
theorem zao7 {pins : List (Addr × Obj)} {σ : St} {H : Hp} {s : Shared} {h1 : Heap} {e C : Addr} {vs : List Value} (I : Inv (cxE P w K mg base N qual scope f cd A outer s₀ H₀ E) pins σ H s) (m : Heap.MadeExcOf s.heap h1 e (.ref C) vs) (q : E (.ref C) none H) :
  (cxE P w K mg base N qual scope f cd A outer s₀ H₀ E).xe (.ref e) { s with heap := h1 } := by
 have I1 : Inv (cxE P w K mg base N qual scope f cd A outer s₀ H₀ E) pins σ H { s with heap := h1 } := I.kept (t' := s.toks) m.keeps
 obtain ⟨t, ge, _, _⟩ := m.there
 show wpAny (model P w) _ (leaving _ (.ref e)) _ _ _
 unfold leaving
 refine wpAny_bind (zamt I1.ok.frames I1.stack rfl ge ⟨rfl, rfl⟩ rfl rfl rfl fun h2 T kb fl nT => zahc fl fun h3 kb3 fl3 => ?_)
 have k3 : KB [e, T] (frs (envOfC qual scope s₀.heap.objs.size f cd :: outer)) h1 h3 := kb.trans kb3.fs
 have n0 : ∀ b ∈ [e, T], s₀.heap.get? b = none := fun b hb => by
  simp only [List.mem_cons, List.not_mem_nil, or_false] at hb
  rcases hb with rfl | rfl
  ·exact I.alien0 rfl m.new
  ·exact I1.alien0 rfl nT
 have nH : ∀ b ∈ [e, T], H b = none := fun b hb => by
  simp only [List.mem_cons, List.not_mem_nil, or_false] at hb
  rcases hb with rfl | rfl
  ·exact I.hok.alien m.new
  ·exact I1.hok.alien nT
 exact ⟨e, C, T, none, H, rfl, I.os, I.bare, I1.base.fly k3 n0 (zaq4 I1), I1.hok.fly k3 nH I1.stkFree, fl3, n0 e (by simp), n0 T (by simp), nH e (by simp), nH T (by simp), q⟩
end
end L2

namespace L2
open PySem PySem.Spec PyProof.Rows
abbrev bmV : List Value := [.type "ValueError", .type "Exception", .type "BaseException", .type "object"]
def XC (K : PySem.W.Frag) (C : Addr) : Prop := PySem.W.excIn K C bmV "ValueError.__new__" = true
theorem XC.obj {K : PySem.W.Frag} {h : Heap} {C : Addr} (q : XC K C) (X : K.In h) : ∃ bm N nm qn bs hdct sn sub ab col dd k0 k1 k2 k3 k5 mN,
  h.get? C = some (excClassObj nm qn C N bs bm hdct sn sub ab col dd k0 k1 k2 k3 k5 "ValueError.__new__") ∧ h.Ns N mN ∧ mN "__init__" = none ∧ OwnTail h bmV bm := by
 have q : PySem.W.excIn K C bmV "ValueError.__new__" = true := q
 unfold PySem.W.excIn at q
 split at q
 case h_2 => cases q
 case h_1 dd cd sl ho =>
  split at q
  case h_2 => cases q
  case h_1 C' bm k0 k1 k2 k3 n k5 hm hs =>
   simp only [Bool.and_eq_true, beq_iff_eq, Bool.not_eq_true'] at q
   obtain ⟨⟨⟨⟨⟨rfl, rfl⟩, dl⟩, ht⟩, ok⟩, ni⟩ := q
   obtain ⟨nm, bs, mro, ns, qn, hd, sn, sub, ab, col, del⟩ := cd
   dsimp only at hm dl ok ni
   subst hm dl
   obtain ⟨l⟩ := sl
   simp only at hs
   subst hs
   exact ⟨bm, ns, nm, qn, bs, hd, sn, sub, ab, col, dd, k0, k1, k2, k3, k5, _, X _ _ ho, .of_isNs (PySem.W.isNs_of_in X ok), PySem.W.nsMap_none_of_in X ok ni, PySem.W.tail_of_in X ht⟩
def XB (K : PySem.W.Frag) (C : Addr) : Prop := (match K.lookup C with
 | some ⟨.type "type", _, .cls cd, sl⟩ => (match cd.mro, sl.toList with
  | .ref C' :: bm, [_, _, _, _, some (.builtin n), _] => C' == C && n == "ValueError.__new__" && !cd.hasDel && PySem.W.tailIn K bmV bm && PySem.W.nsOkIn K cd.ns
  | _, _ => false)
 | _ => false) = true
theorem XB.obj {K : PySem.W.Frag} {h : Heap} {C : Addr} (q : XB K C) (X : K.In h) : ∃ bm N nm qn bs hdct sn sub ab col dd k0 k1 k2 k3 k5 mN,
  h.get? C = some (excClassObj nm qn C N bs bm hdct sn sub ab col dd k0 k1 k2 k3 k5 "ValueError.__new__") ∧ h.Ns N mN ∧ OwnTail h bmV bm := by
 unfold XB at q
 split at q
 case h_2 => cases q
 case h_1 dd cd sl ho =>
  split at q
  case h_2 => cases q
  case h_1 C' bm k0 k1 k2 k3 n k5 hm hs =>
   simp only [Bool.and_eq_true, beq_iff_eq, Bool.not_eq_true'] at q
   obtain ⟨⟨⟨⟨rfl, rfl⟩, dl⟩, ht⟩, ok⟩ := q
   obtain ⟨nm, bs, mro, ns, qn, hd, sn, sub, ab, col, del⟩ := cd
   dsimp only at hm dl ok
   subst hm dl
   obtain ⟨l⟩ := sl
   simp only at hs
   subst hs
   exact ⟨bm, ns, nm, qn, bs, hd, sn, sub, ab, col, dd, k0, k1, k2, k3, k5, _, X _ _ ho, .of_isNs (PySem.W.isNs_of_in X ok), PySem.W.tail_of_in X ht⟩
theorem XC.b {K : PySem.W.Frag} {C : Addr} (q : XC K C) : XB K C := by
 have q : PySem.W.excIn K C bmV "ValueError.__new__" = true := q
 unfold PySem.W.excIn at q
 unfold XB
 split at q
 case h_2 => cases q
 case h_1 dd cd sl ho =>
  split at q
  case h_2 => cases q
  case h_1 C' bm k0 k1 k2 k3 n k5 hm hs =>
   rw [Bool.and_eq_true] at q
   rw [ho]
   show (match cd.mro, sl.toList with
    | .ref C' :: bm, [_, _, _, _, some (.builtin n), _] => C' == C && n == "ValueError.__new__" && !cd.hasDel && PySem.W.tailIn K bmV bm && PySem.W.nsOkIn K cd.ns
    | _, _ => false) = true
   rw [hm, hs]
   exact q.1
def tRaise (C : Addr) (E : XK) (t : TA) : TS := fun _ σ H => t σ H fun vs H1 => vs.length ≤ sizeLine ∧ E (.ref C) none H1
section
variable {P : Program} {w : World} {K : PySem.W.Frag} {mg : Str → Option Value} {base : Heap} {N : List Str} {qual : Str} {scope : Scope} {f : Addr} {cd : Value} {A : Around} {outer : List Env} {s₀ : Shared} {H₀ : Hp} {E : XK}
theorem zaj3 {x : Str} {C : Addr} {np cpos pos : Pos} {e₀ : Expr} {rest : List Expr} {ta : TA} (hg : Gl (cxE P w K mg base N qual scope f cd A outer s₀ H₀ E) x) (hm : mg x = some (.ref C)) (xc : XC K C)
  (ha : PA (cxE P w K mg base N qual scope f cd A outer s₀ H₀ E) (e₀ :: rest) ta) (hdb : (x == ("__debug__" : Str)) = false := by decide)
  (he : starEach (e₀ :: rest) (cxE P w K mg base N qual scope f cd A outer s₀ H₀ E).env = (false, eval e₀ (cxE P w K mg base N qual scope f cd A outer s₀ H₀ E).env) :: starEach rest (cxE P w K mg base N qual scope f cd A outer s₀ H₀ E).env := by rfl)
  (hpl : (backTo cpos (starEach rest (cxE P w K mg base N qual scope f cd A outer s₀ H₀ E).env)).any (·.1) = false := by rfl) :
  PS (cxE P w K mg base N qual scope f cd A outer s₀ H₀ E) (.Raise (some (.Call (.Name x np) (e₀ :: rest) [] cpos)) none pos) (tRaise C E ta) := by
 intro pins s σ H D I h
 obtain ⟨bm, Nc, nm, qn, bs, hdct, sn, sub, ab, col, dd, k0, k1, k2, k3, k5, mN, hC, hN, hni, T⟩ := xc.obj I.mod.kin
 refine wpAny_Raise_call_subT (C := C) (nm := nm) (q := qn) (N := Nc) (bs := bs) (bm := bm) (hdct := hdct) (sn := sn) (sub := sub) (ab := ab) (col := col) (dd := dd) (k0 := k0) (k1 := k1) (k2 := k2) (k3 := k3) (k5 := k5) PySem.F.excBase_ValueError (mN := mN)
  (T.hasType PySem.F.excBase_ValueError.hasBase) (I.ok.hd rfl) ?_ hni (zada I hg hm ⟨rfl, ?_⟩ hdb)
 ·rw [he]
  show (false || (backTo cpos (starEach rest (cxE P w K mg base N qual scope f cd A outer s₀ H₀ E).env)).any (·.1)) = false
  rw [hpl]
  rfl
 ·have ha' := ha cpos pins s σ H _ I h
  rw [he] at ha' ⊢
  refine Calls.evalArgs_plain (wpAny_mono ha' (fun us s2 ⟨vs, H1, I1, r, z, q⟩ => ?_) fun _ _ y => y)
  exact ⟨rfl, by rw [← r.length]; exact z, I1.bk _ _ hC, hN.keeps I1.bk, T.keeps I1.bk, fun h' e m => zao7 I1 m q⟩
theorem zac9 {x : Str} {C : Addr} {np cpos pos : Pos} {e₀ : Expr} {rest : List Expr} {ta : TA} (hg : Gl (cxE P w K mg base N qual scope f cd A outer s₀ H₀ E) x) (hm : mg x = some (.ref C)) (xc : XC K C)
  (ha : Pr (PA (cxE P w K mg base N qual scope f cd A outer s₀ H₀ E) (e₀ :: rest) ta)) (hdb : (x == ("__debug__" : Str)) = false := by decide)
  (he : starEach (e₀ :: rest) (cxE P w K mg base N qual scope f cd A outer s₀ H₀ E).env = (false, eval e₀ (cxE P w K mg base N qual scope f cd A outer s₀ H₀ E).env) :: starEach rest (cxE P w K mg base N qual scope f cd A outer s₀ H₀ E).env := by rfl)
  (hpl : (backTo cpos (starEach rest (cxE P w K mg base N qual scope f cd A outer s₀ H₀ E).env)).any (·.1) = false := by rfl) :
  Pr (PS (cxE P w K mg base N qual scope f cd A outer s₀ H₀ E) (.Raise (some (.Call (.Name x np) (e₀ :: rest) [] cpos)) none pos) (tRaise C E ta)) := ⟨zaj3 hg hm xc ha.h hdb he hpl⟩
theorem powE : PassesOwn (model P w) (cxE P w K mg base N qual scope f cd A outer s₀ H₀ E).A (cxE P w K mg base N qual scope f cd A outer s₀ H₀ E).env (cxE P w K mg base N qual scope f cd A outer s₀ H₀ E).xe := PassesOwn.leaving
end
section
variable {P : Program} {w : World} {K : PySem.W.Frag} {mg : Str → Option Value} {base : Heap}
theorem Fun.okE {x qual : Str} {st : Stmt} {f : Addr} {fd : FuncData} {N ps : List Str} {k : Nat} {sp : Sp} (F : Fun K x qual st f fd) (S : FnScope N ps (defScope st)) (len : ∀ vs H Q E, sp vs H Q E → vs.length = ps.length)
  (hbody : ∀ (cdv : Value) (A : Around) (outer : List Env) (s : Shared) (H : Hp) (vs : List V) (Q : VK) (E : XK), Room k (A.deeper (envOfC qual (defScope st) s.heap.objs.size f cdv)) → sp vs H Q E →
   ∃ t, PSs (cxE P w K mg base N qual (defScope st) f cdv A outer s H E) (defBody st) t ∧ t { nx := fun _ H' => Q .non H', rt := Q } (start N vs) H) : FnOk P w K mg base (CXE P w) (k + 1) f fd ps sp := by
 obtain ⟨oc, od, kV, doc, pm, an, cdv, ct, osl, rfl, lk, hcd⟩ := F.ex
 exact zaqt lk hcd S len fun A outer s H vs Q E hr hsp => hbody cdv A outer s H vs Q E hr hsp
theorem FnOk.calm {k : Nat} {f : Addr} {fd : FuncData} {ps : List Str} {sp sp' : Sp} (F : FnOk P w K mg base (CXE P w) k f fd ps sp) (h : ∀ vs H Q E, sp' vs H Q E → sp vs H Q E0) : FnOk P w K mg base CX0 k f fd ps sp' :=
 ⟨fun vs H Q E q => F.len vs H Q E0 (h _ _ _ _ q), fun A outer s H args us vs Q E hr he hb hv hs => codeAny_mono (F.run A outer s H args us vs Q E0 hr he hb hv (h _ _ _ _ hs)) fun r s' hq => by
  cases r with
  | ok fl => cases fl <;> exact hq
  | error e =>
   obtain ⟨ea, C, T, dx, H', _, _, _, _, _, _, _, _, _, _, z⟩ := (show CXE P w outer H s E0 e s' from hq)
   exact z.elim⟩
end
end L2

namespace L2
open PySem PySem.Spec PyProof.Rows
def Cx.hand (X : Cx) (v : Value) : Cx := { X with A := X.A.mark (some v), calm := false }
section
variable {X : Cx} {pins : List (Addr × Obj)} {σ : St} {H H' : Hp} {s s' : Shared} {v : Value}
theorem Inv.hand (I : Inv X pins σ H s) (v : Value) : Inv (X.hand v) pins σ H s :=
 ⟨⟨I.ok.mod, I.ok.kind, I.ok.glob, I.ok.blt, I.ok.above, I.ok.inj, I.ok.has, I.ok.cab, (fun z => by cases z), I.ok.frames, I.ok.stk, I.ok.exf, I.ok.bs, I.ok.bsz, I.ok.noex, I.ok.exfs, I.ok.funs, I.ok.frf⟩, I.os, I.bare, I.base, I.loc, I.cell, I.free, I.freeC, I.pin, I.hok, I.len⟩
theorem Inv.unhand (J : X.Ok) (I : Inv (X.hand v) pins σ H s) : Inv X pins σ H s := ⟨J, I.os, I.bare, I.base, I.loc, I.cell, I.free, I.freeC, I.pin, I.hok, I.len⟩
theorem Inv.track {a : Addr} {o : HO} (I : Inv X pins σ H s) (hn : H a = none) (n0 : X.s₀.heap.get? a = none) (nl : a ≠ X.env.locals) (nc : ∀ x c, X.env.cells.lookup x = some c → c ≠ a) (np : ∀ p ∈ X.pn ++ pins, p.1 ≠ a)
  (new : ObjOk X.prog X.w (upd H a o) s.heap a o) : Inv X pins σ (upd H a o) s := by
 have ne : ∀ b u, H b = some u → b ≠ a := fun b u e z => by rw [z, hn] at e; cases e
 refine ⟨I.ok, I.os, I.bare, ⟨I.base.keep, I.base.slot, fun b o' e n hx => ?_, I.base.there, fun b xs e => ?_, fun b o' u e => ?_, fun b ps e => ?_⟩, I.loc, I.cell, ?_, fun x c e => ?_, fun p hp => ?_, fun b u e => ?_, I.len⟩
 ·rw [zaa5 (fun z => by rw [z, n0] at e; cases e)]
  exact I.base.free b o' e n hx
 ·have q := I.base.tups b xs e
  rw [zaa5 (ne b _ q)]
  exact q
 ·have q := I.base.frzs b o' u e
  rw [zaa5 (ne b _ q)]
  exact q
 ·obtain ⟨more, q⟩ := I.base.tbls b ps e
  exact ⟨more, by rw [zaa5 (ne b _ q)]; exact q⟩
 ·rw [zaa5 (Ne.symm nl)]
  exact I.free
 ·rw [zaa5 (nc x c e)]
  exact I.freeC x c e
 ·obtain ⟨q1, q2, q3⟩ := I.pin p hp
  exact ⟨q1, by rw [zaa5 (np p hp)]; exact q2, q3⟩
 ·by_cases hb : b = a
  ·subst hb
   rw [zaal] at e
   cases e
   exact new
  ·rw [zaa5 hb] at e
   exact (I.hok b u e).stay (fun _ _ _ q => q) (fun c q => by rw [zaa5 (ne c _ q)]; exact q) fun c xs q => by rw [zaa5 (ne c _ q)]; exact q
def exO (a C : Addr) (dx : Option Addr := none) : HO := .ext fun h => ∃ o vs, h.get? a = some o ∧ (o.cls = .ref C ∧ o.dict = dx) ∧ o.data = .fields vs ∧ vs[2]? = some .none
theorem zaq5 {P : Program} {w : World} {H : Hp} {h : Heap} {a C T : Addr} {dx : Option Addr} {fl : Value} (f : Fl h a C dx T fl) : ObjOk P w H h a (exO a C dx) := by
 obtain ⟨oe, vs, h1, h2, h3, _, h5⟩ := f.ob
 exact ⟨⟨oe, vs, h1, h2, h3, h5⟩, ⟨oe, h1⟩, fun g1 g2 ⟨o, ws, q1, q2⟩ k => ⟨o, ws, k o q1, q2⟩⟩
theorem zao8 {P : Program} {w : World} {H : Hp} {h : Heap} {a C : Addr} {dx : Option Addr} (ok : HOk P w H h) (e : H a = some (exO a C dx)) : ∃ o vs, h.get? a = some o ∧ (o.cls = .ref C ∧ o.dict = dx) ∧ o.data = .fields vs ∧ vs[2]? = some .none := (ok a _ e).1
theorem zafj {M : Model} {A : Around} {E : Value → Shared → Prop} {i : Nat} {x : Str} {pos : Pos} {Q : Unit → Shared → Prop} (I : Inv X pins σ H s) (hN : X.N.Nodup) (hi : X.N[i]? = some x) (hk : X.env.scope.names.lookup x = some .local)
  (h : ∀ s', Inv X pins (σ.set i none) H s' → Q () s') : wpAny M A (do bindName X.env x .none; unbindBehindTheSuite X.env x pos) Q E s := by
 obtain ⟨m, hn, hl⟩ := id I.loc
 have hcls : (X.env.scope.kind == .class || (X.env.scope.kind == .module && X.env.locals != X.env.globals)) = false := by rw [I.ok.kind]; rfl
 refine wpAny_nameGoes_keeps hk hn hcls fun h' v hn' hs => h _ ?_
 have nb : ∀ b, (∃ o, X.s₀.heap.get? b = some o) → b ≠ X.env.locals := fun b ⟨o, e⟩ => Nat.ne_of_lt (Nat.lt_of_lt_of_le (Heap.lt_size e) I.ok.above)
 refine ⟨I.ok, I.os, I.bare, ⟨fun b o e n hb hx => ?_, fun b o e n hb hx => ?_, I.base.free, fun b o e hx => ?_, I.base.tups, I.base.frzs, I.base.tbls⟩, ⟨_, hn', fun j y v' e1 e2 e3 => ?_⟩, fun y c e => ?_, I.free, I.freeC, fun p hp => ?_, fun b ob e => ?_, by rw [List.length_set]; exact I.len⟩
 ·exact (hs.2 b (nb b ⟨o, e⟩)).trans (I.base.keep b o e n hb hx)
 ·obtain ⟨sl, e1⟩ := I.base.slot b o e n hb hx
  exact ⟨sl, (hs.2 b (nb b ⟨o, e⟩)).trans e1⟩
 ·obtain ⟨o', e1⟩ := I.base.there b o e hx
  exact ⟨o', (hs.2 b (nb b ⟨o, e⟩)).trans e1⟩
 ·have hj : j ≠ i := fun z => by
   subst z
   rw [List.getElem?_set_self (by rw [I.len]; exact (List.getElem?_eq_some_iff.mp hi).1)] at e2
   cases e2
  rw [List.getElem?_set_ne (Ne.symm hj)] at e2
  obtain ⟨u', r', q⟩ := hl j y v' e1 e2 e3
  refine ⟨u', r', ?_⟩
  rcases q with ⟨k, e⟩ | ⟨k, c, e, z⟩
  ·have ny : y ≠ x := fun e => hj (zae7 hN e1 (e ▸ hi))
   exact .inl ⟨k, by simp [ny, e]⟩
  ·exact .inr ⟨k, c, e, z.sameBut hs (I.cne y c e)⟩
 ·obtain ⟨w', z⟩ := I.cell y c e
  exact ⟨w', z.sameBut hs (I.cne y c e)⟩
 ·obtain ⟨e, n, ne, nf, d⟩ := I.pin p hp
  exact ⟨(hs.2 p.1 ne).trans e, n, ne, nf, d⟩
 ·refine (I.hok b ob e).stay (fun c w' hc q => (hs.2 c fun z => ?_).trans q) (fun _ q => q) fun _ _ q => q
  have f := I.free
  rcases hc with hc | hc
  ·rw [← z, hc, e] at f; cases f
  ·rw [← z, hc] at f; cases f
end
def XSub (K : PySem.W.Frag) (C CF : Addr) : Prop := (match K.lookup C with
 | some ⟨_, _, .cls cd, _⟩ => cd.mro.contains (.ref CF)
 | _ => false) = true
section
variable {M : Model} {A : Around} {E : Value → Shared → Prop} {s : Shared} {K : PySem.W.Frag} {C CF e : Addr}
theorem zamu {oe : Obj} {Q : Bool → Shared → Prop} (X : K.In s.heap) (c1 : XB K C) (c2 : XB K CF) (sb : XSub K C CF) (ge : s.heap.get? e = some oe) (gc : oe.cls = .ref C) (k : Q true s) : wpAny M A (excMatches (.ref e) (.ref CF)) Q E s := by
 obtain ⟨bm, N, nm, qn, bs, hdct, sn, sub, ab, col, dd, k0, k1, k2, k3, k5, mN, hC, _, T⟩ := c1.obj X
 obtain ⟨bm', N', nm', qn', bs', hdct', sn', sub', ab', col', dd', k0', k1', k2', k3', k5', mN', hF, _, T'⟩ := c2.obj X
 have z1 : (Value.ref CF :: bm').contains (.type "BaseException") = true := by rw [List.contains_cons, T'.hasType PySem.F.excBase_ValueError.hasBase, Bool.or_true]
 have z2 : (Value.ref C :: bm).contains (.ref CF) = true := by
  have sb : (match K.lookup C with
   | some ⟨_, _, .cls cd, _⟩ => cd.mro.contains (.ref CF)
   | _ => false) = true := sb
  split at sb
  case h_2 => cases sb
  case h_1 cl di cd sl ho =>
   have q := X _ _ ho
   rw [hC] at q
   cases q
   exact sb
 have ft := tc_notTuple
 obtain ⟨h, g, d, t, os⟩ := s
 unfold excMatches
 repeat (first
  | (with_reducible refine wpAny_loadPart_at ge ?_; rw [gc])
  | with_reducible refine wpAny_loadPart_at hF ?_
  | (with_reducible refine wpAny_isSubtype_exc hF ?_; rw [z1])
  | (with_reducible refine wpAny_isSubtype_exc hC ?_; rw [z2])
  | wp_step)
 exact k
end
end L2

namespace L2
open PySem PySem.Spec PyProof.Rows
abbrev XW := XK
abbrev XD := St → XK
def XE (X : Cx) (pins : List (Addr × Obj)) (σ : St) (Ew : XW) (e : Value) (s' : Shared) : Prop := ∃ H1 s1, Inv X pins σ H1 s1 ∧ CXE X.prog X.w X.stack H1 s1 Ew e s'
def XPs (X : Cx) (pins : List (Addr × Obj)) (Dx : XD) (e : Value) (s' : Shared) : Prop := ∃ σ1, XE X pins σ1 (Dx σ1) e s'
abbrev TEX := St → Hp → VK → XW → Prop
abbrev TSX := Ends → XD → St → Hp → Prop
def PEX (X : Cx) (e : Expr) (t : TEX) : Prop :=
 ∀ (pins : List (Addr × Obj)) (s : Shared) (σ : St) (H : Hp) (Q : VK) (Ew : XW), Inv X pins σ H s → t σ H Q Ew → wpAny (model X.prog X.w) X.A (eval e X.env) (EP X pins σ Q) (XE X pins σ Ew) s
def PSX (X : Cx) (st : Stmt) (t : TSX) : Prop :=
 ∀ (pins : List (Addr × Obj)) (s : Shared) (σ : St) (H : Hp) (D : Ends) (Dx : XD), Inv X pins σ H s → t D Dx σ H → wpAny (model X.prog X.w) X.A (exec st X.env) (SP X pins D) (XPs X pins Dx) s
def PSXs (X : Cx) (st : List Stmt) (t : TSX) : Prop :=
 ∀ (pins : List (Addr × Obj)) (s : Shared) (σ : St) (H : Hp) (D : Ends) (Dx : XD), Inv X pins σ H s → t D Dx σ H → wpAny (model X.prog X.w) X.A (execs st X.env) (SP X pins D) (XPs X pins Dx) s
def Nox (X : Cx) : Prop := ∀ e s, X.xe e s → False
def tCallX (sp : Sp) (t : TA) : TEX := fun σ H Q Ew => t σ H fun vs H1 => sp vs H1 Q Ew
def tMethX (C : Addr) (m : Str) (sp : Sp) (ta : TE) (t : TA) : TEX := fun σ H Q Ew => ta σ H fun x H1 => ∃ a dx fs, x = .ref a ∧ H1 a = some (.ins C dx fs) ∧ fs.lookup m = none ∧ t σ H1 fun vs H2 => sp (x :: vs) H2 Q Ew
def tDropX (t : TEX) : TSX := fun D Dx σ H => t σ H (fun _ H1 => D.nx σ H1) (Dx σ)
def tIfX (tc : TT) (a b : TSX) : TSX := fun D Dx σ H => tc σ H fun c H1 => if c = true then a D Dx σ H1 else b D Dx σ H1
section
variable {X : Cx} {k : Nat} {f C : Addr} {fd : FuncData} {ps : List Str} {sp : Sp} {x m : Str} {p pos apos : Pos} {e o : Expr} {es : List Expr} {ta : TE} {t : TA}
theorem zao9 {pins : List (Addr × Obj)} {σ : St} {H : Hp} {s : Shared} {Q : VK} {Ew : XW} {us : List Value} {vs : List V} (F : FnOk X.prog X.w X.K X.mg X.base (CXE X.prog X.w) k f fd ps sp) (hr : Room k X.A) (hb : Binds X.K fd ps [])
  (I : Inv X pins σ H s) (r : Vals vs us) (h : sp vs H Q Ew) : wpAny (model X.prog X.w) X.A (call (.ref f) us) (EP X pins σ Q) (XE X pins σ Ew) s := by
 have hl : us.length = ps.length := by rw [← r.length]; exact F.len _ _ _ _ h
 have bt := hb s us I.kIn (by rw [List.append_nil]; exact hl)
 rw [List.append_nil] at bt
 refine wpAny_call (codeAny_mono (F.run X.A X.stack s H ⟨us, []⟩ us vs Q _ hr I.env0 bt r h) fun r s' hq => ?_)
 cases r with
 | error e => exact ⟨H, s, I, hq⟩
 | ok fl =>
  cases fl with
  | ret u => exact I.after hq
  | next => exact False.elim hq
  | brk => exact False.elim hq
  | cont => exact False.elim hq
theorem zafk (hx : Nox X) (D : DefOk X.prog X.w X.K X.mg X.base (CXE X.prog X.w) k x ps sp) (hr : Room k X.A) (hg : Gl X x) (ha : Pr (PA X (e :: es) t)) (hdb : (x == ("__debug__" : Str)) = false := by decide)
  (he : starEach (e :: es) X.env = (false, eval e X.env) :: starEach es X.env := by rfl) (hpl : (backTo pos (starEach es X.env)).any (·.1) = false := by rfl) : PEX X (.Call (.Name x p) (e :: es) [] pos) (tCallX sp t) := by
 obtain ⟨f, fd, F, b, kp, m⟩ := D.ex
 intro pins s σ H Q Ew I h
 refine wpAny_Call_Name_kw (zada I hg m ?_ hdb)
 refine PySem.W.callWith_K (h₀ := X.base) I.ok.mod.kin kp (wpAny_mono (ha.h pos pins s σ H _ I h) (fun us s1 ⟨vs, H1, I1, r, q⟩ => ⟨I1.kIn, ?_⟩) fun _ _ z => (hx _ _ z).elim) he hpl
 exact zao9 F hr b I1 r q
theorem zad7 {te : TEX} (he : PEX X e te) (hs : swapsWith e none pos.line X.env = pure false := by rfl) : PSX X (.Expr e pos) (tDropX te) := by
 intro pins s σ H D Dx I h
 exact wpAny_Expr_any (wpAny_mono (he pins s σ H _ _ I h) (fun v s1 ⟨x, H1, I1, r1, q1⟩ => ⟨σ, H1, I1, q1⟩) fun e s' q => ⟨σ, q⟩) I.quiet hs
theorem zaj4 {c : Expr} {a b : List Stmt} {tc : TT} {t1 t2 : TSX} (hx : Nox X) (hc : Pr (PT X c tc)) (ha : PSXs X a t1) (hb : PSXs X b t2) : PSX X (.If c a b pos) (tIfX tc t1 t2) := by
 intro pins s σ H D Dx I h
 refine wpAny_If (wpAny_mono (hc.h pins s σ H _ I h) (fun b s1 ⟨H1, I1, q⟩ => ?_) fun _ _ z => (hx _ _ z).elim)
 cases b with
 | true => exact ha pins s1 σ H1 D Dx I1 q
 | false => exact hb pins s1 σ H1 D Dx I1 q
theorem zac2 {st : Stmt} {t : TSX} (h1 : PSX X st t) : PSXs X [st] t := by
 intro pins s σ H D Dx I h
 refine wpAny_execs_cons (thn (h1 pins s σ H D Dx I h) fun f s1 q => ?_)
 cases f with
 | next => exact wpAny_execs_nil q
 | ret v => exact q
 | brk => exact q
 | cont => exact q
end
def tTry (K : PySem.W.Frag) (CF : Addr) (i : Nat) (tb : TSX) (ts : Addr → TS) : TS := fun D σ H => tb D (fun σ1 c dx H' => ∃ C, c = .ref C ∧ XB K C ∧ XSub K C CF ∧ ∀ ea, H' ea = none →
 ts ea { nx := fun σ2 H2 => D.nx (σ2.set i none) H2, rt := D.rt, bk := fun σ2 H2 => D.bk (σ2.set i none) H2, ct := fun σ2 H2 => D.ct (σ2.set i none) H2 } (σ1.set i (some (.ref ea))) (upd H' ea (exO ea C dx))) σ H
section
variable {X : Cx}
theorem zaq6 {x n : Str} {CF : Addr} {i : Nat} {body suite : List Stmt} {b₀ : Stmt} {tb : TSX} {ts : Addr → TS} {np hpos pos : Pos} (hx : Nox X) (hst : X.stack = X.env :: X.outer) (hfr : X.env.frame = some X.env.locals) (hex : X.ex = []) (hN : X.N.Nodup) (hi : X.N[i]? = some n)
  (hk : X.env.scope.names.lookup n = some .local) (hg : Gl X x) (hm : X.mg x = some (.ref CF)) (xf : XB X.K CF) (hb : PSXs X body tb) (hs : ∀ ea, PSs (X.hand (.ref ea)) (b₀ :: suite) (ts ea)) (hdb : (x == ("__debug__" : Str)) = false := by decide) :
  PS X (.Try body [.ExceptHandler (some (.Name x np)) (some n) (b₀ :: suite) hpos] [] [] pos) (tTry X.K CF i tb ts) := by
 intro pins s σ H D I h
 refine wpAny_Try_except (wpAny_mono (hb pins s σ H D _ I h) (fun f s1 q => ?_) fun e s1 q => ?_)
 ·cases f with
  | next => exact wpAny_execs_nil q
  | ret v => exact q
  | brk => exact q
  | cont => exact q
 ·obtain ⟨σ1, H1, s2, I2, ea, C, T, dx, H', rfl, os, bare, un, hok, fl, n1, n2, t1, t2, C', ec, xc, sb, q⟩ := q
  obtain rfl : C = C' := by cases ec; rfl
  have J : Inv X pins σ1 H' s1 := I2.call' (ch := []) os un hok bare (fun b z => absurd z (by simp))
  have fr : X.A.frames = some (X.env :: X.outer) := by rw [← hst]; exact J.ok.frames
  have ff : s1.heap.FunFrames X.base (X.env :: X.outer) := by rw [← hst]; exact J.stack
  refine zao6 fr ff hfr fl fun h2 T1 kb fl2 nT => zahc fl2 fun h3 kb3 fl3 => ?_
  have k3 : KB [T, ea, T1] (frs X.stack) s1.heap h3 := by rw [hst]; exact kb.trans kb3.fs
  have hA : ∀ b ∈ [T, ea, T1], X.s₀.heap.get? b = none ∧ H' b = none ∧ b ≠ X.env.locals ∧ (∀ x c, X.env.cells.lookup x = some c → c ≠ b) ∧ ∀ p ∈ X.pn ++ pins, p.1 ≠ b := fun b hb => by
   simp only [List.mem_cons, List.not_mem_nil, or_false] at hb
   rcases hb with rfl | rfl | rfl
   ·exact ⟨I2.alien0 hex n2, t2, I2.alien n2⟩
   ·exact ⟨I2.alien0 hex n1, t1, I2.alien n1⟩
   ·exact ⟨J.alien0 hex nT, J.hok.alien nT, J.alien nT⟩
  have J3 : Inv X pins σ1 H' { s1 with heap := h3 } := J.fly k3 hA
  have J3h := J3.hand (.ref ea)
  obtain ⟨oe, vs, g1, ⟨g2, _⟩, _⟩ := fl3.ob
  refine wpAny_handleBy_cons (codeAny_handlers_test (zada (X := X.hand (.ref ea)) J3h hg hm (zamu J3.kIn xc xf sb g1 g2 ?_) hdb)) (by intro z; cases z)
  refine codeAny_handlers_suite_as ?_
  refine zahc fl3 fun h4 kb4 fl4 => ?_
  have J4 : Inv X pins σ1 H' { s1 with heap := h4 } := J3.fly kb4.fs fun b hb => hA b (by simp only [List.mem_cons, List.not_mem_nil, or_false] at hb ⊢; exact .inr (.inr hb))
  obtain ⟨a0, a1, a2, a3, a4⟩ := hA ea (by simp)
  have J5 := (J4.track (o := exO ea C dx) a1 a0 a2 a3 a4 (zaq5 fl4)).hand (.ref ea)
  refine zae8 (X := X.hand (.ref ea)) (v := V.ref ea) J5 hN hi (.inl hk) (show RelV (V.ref ea) (Value.ref ea) from rfl) (fun s5 J6 => ?_) (.inr hk)
  refine wpAny_mono (hs ea pins s5 _ _ _ J6 (q ea a1)) (fun f s6 q6 => ?_) fun _ _ z => (hx _ _ z).elim
  cases f with
  | next =>
   obtain ⟨σ7, H7, J7, q7⟩ := q6
   exact zafj (J7.unhand J.ok) hN hi hk fun s' J8 => ⟨_, H7, J8, q7⟩
  | brk =>
   obtain ⟨σ7, H7, J7, q7⟩ := q6
   exact zafj (J7.unhand J.ok) hN hi hk fun s' J8 => ⟨_, H7, J8, q7⟩
  | cont =>
   obtain ⟨σ7, H7, J7, q7⟩ := q6
   exact zafj (J7.unhand J.ok) hN hi hk fun s' J8 => ⟨_, H7, J8, q7⟩
  | ret u =>
   obtain ⟨v, σ7, H7, J7, rv, q7⟩ := q6
   exact zafj (J7.unhand J.ok) hN hi hk fun s' J8 => ⟨v, _, H7, J8, rv, q7⟩
end
end L2

namespace L2
open PySem PySem.Spec PyProof.Rows
section
variable {prog : Program} {w : World} {A : Around} {E : Value → Shared → Prop} {s : Shared}
end
def ItrH (ea : Addr) (lo : Int) (n : Nat) : It := ⟨fun i _ => i < n, fun i H x H' => H' = H ∧ x = .int (lo + i), fun i H => n ≤ i ∧ ∃ C dx, H ea = some (exO ea C dx)⟩
def PIG (G : Cx → Prop) (X : Cx) (tg iter : Expr) (wi : TI) : Prop :=
 ∀ (pins : List (Addr × Obj)) (s : Shared) (σ : St) (H : Hp) (R : It → Hp → Prop), Inv X pins σ H s → wi σ H R →
  wpAny (model X.prog X.w) X.A (eval iter X.env) (fun v s1 => wpAny (model X.prog X.w) X.A (pyIter v) (fun itv s2 => ∃ (it : Addr) (fp : List Addr) (tn : Nat → Heap → Prop) (J : It) (H' : Hp), itv = .ref it ∧ Inv X pins σ H' s2 ∧ TurnX G X.prog X.w X.K tg J fp it tn ∧ tn 0 s2.heap ∧ (∀ b ∈ fp, FpOk X pins H' b) ∧ R J H') X.xe s1) X.xe s
def iRngH (ea : Addr) (ta : TA) : TI := fun σ H R => ta σ H fun vs H1 => ∃ j : Int, vs = [.int j] ∧ -(2 ^ 62) ≤ j ∧ j < 2 ^ 62 ∧ R (ItrH ea 0 j.toNat) H1
section
variable {X : Cx} {tg : Expr}
end
end L2

namespace L2
open PySem PySem.Spec PyProof.Rows PySem.W
structure XA (K : PySem.W.Frag) (C : Addr) : Prop where
 xc : XB K C
 ga : findIn K (.ref C) "__getattribute__" = some (some (.builtin "BaseException.__getattribute__"))
 gt : findIn K (.ref C) "__getattr__" = some none
 cl : findIn K (.ref C) "__class__" = some (some (.builtin "object.__class__"))
 sg : specialIn K (.builtin "object.__class__") "__get__" = some (some (.builtin "getset_descriptor.__get__"))
 tk : takesIn K (.builtin "object.__class__") = some true
 mo : mroIn K C (.type "object") = some true
 cs : (clsIn K C).isSome = true
theorem zafl {K : Frag} {C : Addr} {od : Option Obj} {name : Str} {a g : Value} (hc : (clsIn K C).isSome = true) (ha : findIn K (.ref C) name = some (some a)) (hg : specialIn K a "__get__" = some (some g)) (ht : takesIn K a = some true) : findObj K C od name = some (.bind g a) := by
 obtain ⟨cd, hc⟩ := Option.isSome_iff_exists.mp hc
 unfold findObj
 rw [hc, Option.bind_some, ha, Option.bind_some]
 simp [hg, ht]
section
variable {prog : Program} {w : World} {A : Around} {E : Value → Shared → Prop} {s : Shared} {K : Frag} {x C : Addr} {ox : Obj} {od : Option Obj}
theorem zaj5 {Q : Option Value → Shared → Prop} (X : K.In s.heap) (xa : XA K C) (I : InstAt s.heap x ox C od) (h : Q (some (.ref C)) { s with toks := s.toks + 1 }) : wpAny (model prog w) A (getAttr? (.ref x) "__class__") Q E s := by
 obtain ⟨bm, N, nm, qn, bs, hdct, sn, sub, ab, col, dd, k0, k1, k2, k3, k5, mN, hC, hN, T⟩ := xa.xc.obj X
 obtain ⟨hh, g, d, t, os⟩ := s
 have L0 := I.type (M := model prog w)
 have L1 := looks_findIn (M := model prog w) X xa.ga
 have L2 := looks_findIn (M := model prog w) X xa.gt
 have L3 := looks_find (M := model prog w) X I (zafl xa.cs xa.cl xa.sg xa.tk)
 have f3 := PySem.F.attr_ValueError.ga.bind (.ref x)
 unfold getAttr? getAttrBy? getAttrBy
 refine wpAny_bind (wpAny_mkText (wpAny_bind (wpAny_attempt (wpAny_holding (wpAny_bind (L0.at (wpAny_bind (L1.at ?_))))))))
 dsimp only
 have b0 : (Value.builtin "BaseException.__getattribute__" == Value.builtin "object.__getattribute__") = false := by decide +kernel
 rw [if_neg (by rw [b0, Bool.and_false]; exact Bool.false_ne_true)]
 unfold getAttrByItsOwn hookBefore
 rw [if_pos (show onTheHeap (Value.ref C) = true from rfl)]
 refine wpAny_bind (L2.at (wpAny_bind (wpAny_attempt (wpAny_holding ?_))))
 unfold callGetattribute
 rw [if_neg (by decide +kernel)]
 unfold boundAndCalled
 refine wpAny_bind (wpAny_of_eq f3 ?_)
 refine wpAny_call (codeAny_call_builtin PySem.F.attr_ValueError.ga.plain PySem.F.entry_bexc_ga ?_)
 have y1 : builtinKind "BaseException.__getattribute__" = some .slot := by decide +kernel
 have y2 : splitId "BaseException.__getattribute__" = some ("BaseException", "__getattribute__") := by decide +kernel
 have y3 : (Value.ref C :: bm).contains (.type "BaseException") = true := by rw [List.contains_cons, T.hasType PySem.F.excBase_ValueError.hasBase, Bool.or_true]
 have y4 := PySem.F.args_bexc_ga (.ref x) (.str "__class__" t)
 have gx := I.at_
 have gc := I.cls
 simp only [checkBuiltinCall, y1, y2]
 refine wpAny_bind ?_
 unfold isInstance
 repeat (first
  | with_reducible refine wpAny_bind (L3.at ?_)
  | with_reducible refine L3.at ?_
  | (with_reducible refine wpAny_loadPart_at gx ?_; rw [gc])
  | (with_reducible refine wpAny_isSubtype_exc hC ?_; rw [y3])
  | wp_step)
 refine class_get (s := ⟨hh, g, d, t + 1, os⟩) X I xa.mo ?_
 unfold ret
 refine wpAny_pure ?_
 exact handed_on rfl (wpAny_pure h)
theorem zaif (xa : XA K C) : KitX K (.ref x) (.ref C) (fun h => ∃ ox od, InstAt h x ox C od) where
 ty := fun _ _ _ ⟨_, _, I⟩ => I.type
 it := fun _ _ X _ => by
  obtain ⟨cd, hcd⟩ := Option.isSome_iff_exists.mp xa.cs
  unfold clsIn at hcd
  split at hcd
  case h_1 c' d' cd' sl' ho =>
   intro A' Q' E' s' k q
   unfold isType loadHead
   exact wpAny_bind (wpAny_loadPart (k _ _ (X _ _ ho)) (wpAny_pure q))
  case h_2 => cases hcd
 ne := fun h tp dd its n sl X htp => by
  obtain ⟨cd, hcd⟩ := Option.isSome_iff_exists.mp xa.cs
  refine Bool.eq_false_iff.mpr fun q => ?_
  have e : C = tp := Value.ref.inj (beq_iff_eq.mp q)
  subst e
  unfold clsIn at hcd
  split at hcd
  case h_1 c' d' cd' sl' ho =>
   have z := (X _ _ ho).symm.trans htp
   cases z
  case h_2 => cases hcd
 ca := fun X ⟨_, _, I⟩ k => zaj5 X xa I k
end
def XDx (H : Hp) (dx : Option Addr) : Prop := ∀ d, dx = some d → ∃ fs, H d = some (.xd fs)
theorem zamv {P : Program} {w : World} {H : Hp} {h : Heap} {a C : Addr} {dx : Option Addr} (ok : HOk P w H h) (e : H a = some (exO a C dx)) (hd : XDx H dx) : ∃ ox od, InstAt h a ox C od := by
 obtain ⟨o, vs, g1, ⟨g2, g3⟩, g4, _⟩ := zao8 ok e
 have n : notCls o = true := by unfold notCls; rw [g4]
 cases dx with
 | none => exact ⟨o, none, g1, g2, n, by rw [g3]; trivial⟩
 | some d =>
  obtain ⟨fs, hf⟩ := hd d rfl
  obtain ⟨od, g⟩ := ok.has hf
  exact ⟨o, some od, g1, g2, n, by rw [g3]; exact g⟩
def rIsX (K : Frag) : List V → Hp → VK → Prop := fun xs H Q => ∃ (ea C : Addr) (dx : Option Addr) (c : V) (b : Bool), xs = [.ref ea, c] ∧ H ea = some (exO ea C dx) ∧ XDx H dx ∧ XA K C ∧ ((∃ CF, c = .ref CF ∧ kitOne K (.ref C) (.ref CF) = some b) ∨ ∃ T, c = .ty T ∧ kitOne K (.ref C) (.type T) = some b) ∧ Q (.bl b) H
theorem zab5 {X : Cx} : CallR X (.builtin "isinstance") (rIsX X.K) := by
 intro pins s σ H xs us Q I r h
 obtain ⟨ea, C, dx, c, b, rfl, he, hd, xa, hc, q⟩ := h
 obtain ⟨u, v, rfl, ru, rv⟩ := vals2 r
 obtain rfl : u = Value.ref ea := ru
 have J := zamv I.hok he hd
 rcases hc with ⟨CF, rfl, e⟩ | ⟨T, rfl, e⟩
 ·obtain rfl : v = Value.ref CF := rv
  exact kia_one (zaif xa) I.kIn J e (fun z => by cases z) fun tk => ⟨.bl b, H, I.tok _, rfl, q⟩
 ·obtain rfl : v = Value.type T := rv
  exact kia_one (zaif xa) I.kIn J e (fun z => by cases z) fun tk => ⟨.bl b, H, I.tok _, rfl, q⟩
end L2

namespace L2
open PySem PySem.Spec PyProof.Rows
structure RoomH (ea : Addr) (k : Nat) (A : Around) : Prop where
 hd : A.handled = some (.ref ea)
 dp : A.depth + 3 * k + 5 < recursionLimit
 un : A.units + 16 * k + 200 < cLine
structure FnOkH (P : Program) (w : World) (K : PySem.W.Frag) (mg : Str → Option Value) (base : Heap) (k : Nat) (f : Addr) (fd : FuncData) (ps : List Str) (sp : Addr → Sp) : Prop where
 len : ∀ ea vs H Q E, sp ea vs H Q E → vs.length = ps.length
 run : ∀ (ea : Addr) (A : Around) (outer : List Env) (s : Shared) (H : Hp) (args : Args) (us : List Value) (vs : List V) (Q : VK), RoomH ea k A → Env0 P w K mg base A outer s H → BindsTo s fd args (ps.zip us) → Vals vs us → sp ea vs H Q E0 →
  codeAny (model P w) A (.call (.ref f) args) (CR CX0 outer P w H s Q E0) s
structure DefOkH (P : Program) (w : World) (K : PySem.W.Frag) (mg : Str → Option Value) (base : Heap) (k : Nat) (x : Str) (ps : List Str) (sp : Addr → Sp) : Prop where
 ex : ∃ (f : Addr) (fd : FuncData), FnOkH P w K mg base k f fd ps sp ∧ Binds K fd ps [] ∧ PySem.W.keepIn K (.ref f) = true ∧ mg x = some (.ref f)
def tCallH (ea : Addr) (sp : Addr → Sp) (t : TA) : TE := fun σ H Q => t σ H fun vs H1 => sp ea vs H1 Q E0
section
variable {X : Cx} {k : Nat} {x : Str} {ps : List Str} {p pos : Pos} {e : Expr} {es : List Expr} {t : TA}
end
def cxH (P : Program) (w : World) (K : PySem.W.Frag) (mg : Str → Option Value) (base : Heap) (N : List Str) (qual : Str) (scope : Scope) (f : Addr) (cd : Value) (A : Around) (outer : List Env) (s : Shared) (H : Hp) : Cx :=
 { cxOf CX0 P w K mg base N qual scope f cd { A with handled := none } outer s H E0 with A := A.deeper (envOfC qual scope s.heap.objs.size f cd), calm := false, xe := fun _ _ => False }
section
variable {X : Cx} {sc : Scope} {own : List Str} {fr : List Nat} {N' : List Str} {tg elt iter : Expr} {ifs : List Expr} {g : TG} {tt : TT} {te : TE} {wi : TI} {pos : Pos} {G : Cx → Prop}
end
section
variable {X : Cx}
theorem zapa {x n : Str} {CF : Addr} {i : Nat} {body suite : List Stmt} {b₀ : Stmt} {tb : TSX} {ts : Addr → TS} {np hpos pos : Pos} (hx : Nox X) (hst : X.stack = X.env :: X.outer) (hfr : X.env.frame = some X.env.locals) (hex : X.ex = []) (hN : X.N.Nodup) (hi : X.N[i]? = some n)
  (hk : X.env.scope.names.lookup n = some .local) (hg : Gl X x) (hm : X.mg x = some (.ref CF)) (xf : XB X.K CF) (hb : PSXs X body tb) (hs : ∀ ea, Pr (PSs (X.hand (.ref ea)) (b₀ :: suite) (ts ea))) (hdb : (x == ("__debug__" : Str)) = false := by decide) :
  Pr (PS X (.Try body [.ExceptHandler (some (.Name x np)) (some n) (b₀ :: suite) hpos] [] [] pos) (tTry X.K CF i tb ts)) := ⟨zaq6 hx hst hfr hex hN hi hk hg hm xf hb (fun ea => (hs ea).h) hdb⟩
end
end L2

namespace L2
open PySem PySem.Spec PyProof.Rows PySem.SeqAt
section
variable {X : Cx}
end
def Itv (K : PySem.W.Frag) (a : Addr) (xs : List V) : It :=
 ⟨fun i H => SqL K H a xs ∧ i < xs.length, fun i H x H' => H' = H ∧ xs.reverse[i]? = some x, fun i H => SqL K H a xs ∧ xs.length ≤ i⟩
section
variable {X : Cx} {tg : Expr}
def iRev (K : PySem.W.Frag) (ta : TA) : TI := fun σ H R => ta σ H fun vs H1 => ∃ a xs, vs = [.ref a] ∧ SqL K H1 a xs ∧ R (Itv K a xs) H1
end
def Eq0 (x y : V) : Prop := x = y ∧ ((∃ i, x = .int i) ∨ ∃ a, x = .ref a)
def Eq1 (H : Hp) (x y : V) : Prop := ∃ (p q : Addr) (zs : List V), x = .ref p ∧ y = .ref q ∧ p ≠ q ∧ H p = some (.lst zs) ∧ H q = some (.lst zs) ∧ ∀ z ∈ zs, Eq0 z z
section
variable {X : Cx}
def rNeL : R2 := fun x y H Q => ∃ (a b : Addr) (xs ys : List V), x = .ref a ∧ y = .ref b ∧ H a = some (.lst xs) ∧ H b = some (.lst ys) ∧ xs.length = ys.length ∧ (∀ (i : Nat) (x y : V), xs[i]? = some x → ys[i]? = some y → Eq1 H x y) ∧ Q (.bl false) H
end
end L2

namespace L2
open PySem PySem.Spec PyProof.Rows PySem.SeqAt
def Sca (x : V) : Prop := (∃ i, x = .int i) ∨ ∃ t, x = .str t
structure ScaL (xs : List V) : Prop where
 h : ∀ z ∈ xs, Sca z
theorem zapb {α : Type} [BEq α] [LawfulBEq α] [DecidableEq α] (a b : α) : (a == b) = decide (a = b) := by
 by_cases h : a = b
 ·subst h; simp
 ·rw [decide_eq_false h]; exact beq_eq_false_iff_ne.mpr h
theorem zanr {A : Around} {s : Shared} {x y : V} {u v : Value} (hx : Sca x) (hy : Sca y) (ru : RelV x u) (rv : RelV y v) : EqAt A s u v (decide (x = y)) := by
 rcases hx with ⟨i, rfl⟩ | ⟨i, rfl⟩ <;> rcases hy with ⟨j, rfl⟩ | ⟨j, rfl⟩ <;> obtain ⟨t, rfl⟩ := ru <;> obtain ⟨t', rfl⟩ := rv
 ·have := EqAt.int_int (A := A) (s := s) i t j t'
  rw [zapb] at this
  rwa [show decide (V.int i = V.int j) = decide (i = j) from by by_cases h : i = j <;> simp [h]]
 ·rw [show decide (V.int i = V.str j) = false from by simp]
  exact EqAt.int_str i t j t'
 ·rw [show decide (V.str i = V.int j) = false from by simp]
  exact EqAt.str_int i t j t'
 ·have := EqAt.str_str (A := A) (s := s) i t j t'
  rw [show decide (V.str i = V.str j) = (i == j) from by
   by_cases h : i = j
   ·subst h; simp
   ·rw [decide_eq_false (fun z => h (V.str.inj z))]; exact (beq_eq_false_iff_ne.mpr h).symm]
  exact this
theorem zaq7 {xs ys : List V} : ((List.range (min xs.length ys.length)).all (fun j => decide (xs[j]? = ys[j]?)) && xs.length == ys.length) = decide (xs = ys) := by
 by_cases h : xs = ys
 ·subst h
  simp
 ·rw [decide_eq_false h]
  by_cases hl : xs.length = ys.length
  ·rw [Bool.and_eq_false_iff]
   refine .inl ?_
   rw [List.all_eq_false]
   refine Classical.byContradiction fun z => h (List.ext_getElem? fun j => ?_)
   by_cases hj : j < xs.length
   ·refine Classical.byContradiction fun y => z ⟨j, List.mem_range.mpr (by omega), by simpa using y⟩
   ·rw [List.getElem?_eq_none (by omega), List.getElem?_eq_none (by omega)]
  ·rw [Bool.and_eq_false_iff]
   exact .inr (beq_eq_false_iff_ne.mpr hl)
theorem zamw {A : Around} {s : Shared} {xs ys : List V} {us vs : List Value} (hx : ScaL xs) (hy : ScaL ys) (ru : Vals xs us) (rv : Vals ys vs) (j : Nat) (h1 : j < us.toArray.size) (h2 : j < vs.toArray.size) :
  EqAt A s us.toArray[j] vs.toArray[j] (decide (xs[j]? = ys[j]?)) := by
 have l1 := ru.length
 have l2 := rv.length
 have h1' : j < us.length := by simpa using h1
 have h2' : j < vs.length := by simpa using h2
 have gx : xs[j]? = some (xs[j]'(by omega)) := List.getElem?_eq_getElem (by omega)
 have gy : ys[j]? = some (ys[j]'(by omega)) := List.getElem?_eq_getElem (by omega)
 obtain ⟨w1, hw1, r1⟩ := ru.get gx
 obtain ⟨w2, hw2, r2⟩ := rv.get gy
 have k1 : us.toArray[j] = w1 := by
  have := List.getElem?_eq_getElem h1'
  rw [hw1] at this
  simpa using (Option.some.inj this).symm
 have k2 : vs.toArray[j] = w2 := by
  have := List.getElem?_eq_getElem h2'
  rw [hw2] at this
  simpa using (Option.some.inj this).symm
 rw [k1, k2, gx, gy]
 have e : decide (some (xs[j]'(by omega)) = some (ys[j]'(by omega))) = decide (xs[j]'(by omega) = ys[j]'(by omega)) := by
  by_cases h : (xs[j]'(by omega)) = (ys[j]'(by omega)) <;> simp [h]
 rw [e]
 exact zanr (hx.h _ (List.getElem_mem _)) (hy.h _ (List.getElem_mem _)) r1 r2
section
variable {X : Cx}
def rEqT : R2 := fun x y H Q => ∃ (a b : Addr) (xs ys : List V), x = .ref a ∧ y = .ref b ∧ H a = some (.tup xs) ∧ H b = some (.tup ys) ∧ ScaL xs ∧ ScaL ys ∧ Q (.bl (decide (xs = ys))) H
def rNeT : R2 := fun x y H Q => ∃ (a b : Addr) (xs ys : List V), x = .ref a ∧ y = .ref b ∧ H a = some (.tup xs) ∧ H b = some (.tup ys) ∧ ScaL xs ∧ ScaL ys ∧ Q (.bl (!decide (xs = ys))) H
theorem zans (hu : X.A.units + 64 < cLine) : OpR X (compareOp .Eq) rEqT := by
 intro pins s σ H x y v u Q I rx ry h
 obtain ⟨a, b, xs, ys, rfl, rfl, ha, hb, hx, hy, q⟩ := h
 cases rx
 cases ry
 obtain ⟨z, its, rv, t1⟩ := I.hok a _ ha
 obtain ⟨z2, its2, rv2, t2⟩ := I.hok b _ hb
 have key := RcAt.tuples (A := X.A) (s := s) t1 t2 (by omega) (zamw hx hy rv rv2)
 have e : ((List.range (min its.toArray.size its2.toArray.size)).all (fun j => decide (xs[j]? = ys[j]?)) && its.toArray.size == its2.toArray.size) = decide (xs = ys) := by
  rw [← zaq7, List.size_toArray, List.size_toArray, ← rv.length, ← rv2.length]
 rw [e] at key
 exact key X.prog X.w X.xe _ ⟨.bl _, H, I, rfl, q⟩
def rEqS : R2 := fun x y H Q => ∃ (a b : Addr) (xs ys : List V), x = .ref a ∧ y = .ref b ∧ H a = some (.lst xs) ∧ H b = some (.lst ys) ∧ ScaL xs ∧ ScaL ys ∧ Q (.bl (decide (xs = ys))) H
def rNeS : R2 := fun x y H Q => ∃ (a b : Addr) (xs ys : List V), x = .ref a ∧ y = .ref b ∧ H a = some (.lst xs) ∧ H b = some (.lst ys) ∧ ScaL xs ∧ ScaL ys ∧ Q (.bl (!decide (xs = ys))) H
def rInN : R2 := fun x y H Q => ∃ (b : Addr) (ys : List V), x = .non ∧ y = .ref b ∧ H b = some (.lst ys) ∧ (∀ z ∈ ys, ∃ p, z = .ref p ∧ ((∃ zs, H p = some (.lst zs)) ∨ ∃ zs, H p = some (.tup zs))) ∧ Q (.bl false) H
end
end L2


namespace L2
open PySem PySem.W PyProof.Rows
structure Pm (n : Nat) (p : Array Nat) : Prop where
 perm : p.toList.Perm (List.range n)
section
variable {n : Nat} {L : Nat → Nat → Prop} [DecidableRel L] {cmp : Nat → Nat → (Bool → Shared → Prop) → Shared → Prop} {s : Shared}
def lR (L : Nat → Nat → Prop) (p : Array Nat) (i j : Nat) : Prop := L (p.getD i 0) (p.getD j 0)
instance lR_dec (p : Array Nat) (i j : Nat) : Decidable (lR L p i j) := inferInstanceAs (Decidable (L (p.getD i 0) (p.getD j 0)))
def Up (L : Nat → Nat → Prop) (p : Array Nat) (m : Nat) : Prop := ∀ i j, i < j → j < m → lR L p i j
def Dn (L : Nat → Nat → Prop) (p : Array Nat) (m : Nat) : Prop := ∀ i j, i < j → j < m → lR L p j i
structure Ord (n : Nat) (L : Nat → Nat → Prop) [DecidableRel L] (cmp : Nat → Nat → (Bool → Shared → Prop) → Shared → Prop) (s : Shared) : Prop where
 tr : ∀ {i j k}, L i j → L j k → L i k
 tot : ∀ i j, i < n → j < n → i ≠ j → ¬ L i j → L j i
 ask : ∀ i j C, i < n → j < n → C (decide (L i j)) s → cmp i j C s
end
end L2

namespace L2
open PySem PySem.W PyProof.Rows PySem.Calls
def KeptBut (a : Addr) (h h' : Heap) : Prop := ∀ b o, b ≠ a → h.get? b = some o → h'.get? b = some o
section
variable {prog : Program} {w : World} {A : Around} {E : Value → Shared → Prop} {s : Shared} {a : Addr} {vs : List Value} {κ : SortKind} {L : Nat → Nat → Prop} [DecidableRel L]
end
end L2

namespace L2
open PySem PySem.W PyProof.Rows PySem.SeqAt
def kLt : Key → Key → Prop
 | .inl a, .inl b => a < b
 | .inr x, .inr y => x.cps.toList < y.cps.toList
 | _, _ => False
instance kLt_dec : (a b : Key) → Decidable (kLt a b)
 | .inl a, .inl b => inferInstanceAs (Decidable (a < b))
 | .inr x, .inr y => inferInstanceAs (Decidable (x.cps.toList < y.cps.toList))
 | .inl _, .inr _ => isFalse id
 | .inr _, .inl _ => isFalse id
def kLex : List Key → List Key → Prop
 | k :: ks, k' :: ks' => if k = k' then kLex ks ks' else kLt k k'
 | _, _ => False
instance kLex_dec : (a b : List Key) → Decidable (kLex a b)
 | k :: ks, k' :: ks' => by
  unfold kLex
  by_cases h : k = k'
  ·rw [if_pos h]; exact kLex_dec ks ks'
  ·rw [if_neg h]; exact kLt_dec k k'
 | [], [] => isFalse id
 | [], _ :: _ => isFalse id
 | _ :: _, [] => isFalse id
theorem zaiz (a : Key) : ¬ kLt a a := by
 cases a with
 | inl a => exact Int.lt_irrefl a
 | inr x => exact List.lt_irrefl _
theorem zaj6 {a b c : Key} (h : kLt a b) (h' : kLt b c) : kLt a c := by
 cases a <;> cases b <;> cases c <;> first | exact h.elim | exact h'.elim | exact Int.lt_trans h h' | exact List.lt_trans h h'
theorem zae0 : ∀ {a b c : List Key}, kLex a b → kLex b c → kLex a c
 | x :: a, y :: b, z :: c, h, h' => by
  unfold kLex at h h' ⊢
  by_cases e : x = y
  ·subst e
   rw [if_pos rfl] at h
   by_cases e2 : x = z
   ·subst e2
    rw [if_pos rfl] at h' ⊢
    exact zae0 h h'
   ·rw [if_neg e2] at h' ⊢
    exact h'
  ·rw [if_neg e] at h
   by_cases e2 : y = z
   ·subst e2
    rw [if_neg e]
    exact h
   ·rw [if_neg e2] at h'
    have := zaj6 h h'
    rw [if_neg (fun z => zaiz x (by rw [← z] at this; exact this))]
    exact this
 | [], _, _, h, _ => h.elim
 | _ :: _, [], _, h, _ => h.elim
 | _ :: _, _ :: _, [], _, h => h.elim
theorem zant (k : Key) : Sca (kV k) := by
 cases k with
 | inl i => exact .inl ⟨i, rfl⟩
 | inr x => exact .inr ⟨x, rfl⟩
section
variable {prog : Program} {w : World} {A : Around} {E : Value → Shared → Prop} {s : Shared}
theorem zaq8 {k k' : Key} {u v : Value} (c : Bool) {Q : Bool → Shared → Prop} (ru : RelV (kV k) u) (rv : RelV (kV k') v) (hs : k.isLeft = k'.isLeft) (q : Q (decide (kLt k k')) s) : wpAny (model prog w) A (oneLt' c u v) Q (fun _ _ => False) s := by
 cases k with
 | inl i =>
  cases k' with
  | inr y => cases hs
  | inl j =>
   obtain ⟨t, rfl⟩ := ru
   obtain ⟨t', rfl⟩ := rv
   cases c with
   | true => exact oneLt_int q
   | false => exact kat_one _ _ (lt_int q)
 | inr x =>
  cases k' with
  | inl y => cases hs
  | inr y =>
   obtain ⟨t, rfl⟩ := ru
   obtain ⟨t', rfl⟩ := rv
   cases c with
   | true => exact kas_lt_str (Q := Q) (E := fun _ _ => False) q
   | false => exact kat_one _ _ (lt_str q)
theorem zaig {b : Bool} {Q : Bool → Shared → Prop} : ∀ {ks ks' : List Key} {us vs : List Value} (i : Nat), Vals (ks.map kV) us → Vals (ks'.map kV) vs → ks.map Sum.isLeft = ks'.map Sum.isLeft → Q (decide (kLex ks ks')) s → KatLex prog w A b false Q (us.zip vs) i s
 | [], [], _, _, i, .nil, .nil, _, q => by
  refine kat_nil ?_
  rwa [show decide (kLex [] []) = false from rfl] at q
 | k :: ks, k' :: ks', _, _, i, .cons r rs, .cons r' rs', hs, q => by
  have hs : k.isLeft = k'.isLeft ∧ ks.map Sum.isLeft = ks'.map Sum.isLeft := by simpa using hs
  refine kat_cons (zanr (zant k) (zant k') r r' prog w _ _ ?_)
  by_cases e : k = k'
  ·subst e
   rw [decide_eq_true rfl]
   refine kat_yes (zaig (i + 1) rs rs' hs.2 ?_)
   rwa [show decide (kLex (k :: ks) (k :: ks')) = decide (kLex ks ks') from by simp [kLex]] at q
  ·rw [decide_eq_false (fun z => e (zaqy z))]
   refine kat_no (zaq8 _ r r' hs.1 ?_)
   rwa [show decide (kLex (k :: ks) (k' :: ks')) = decide (kLt k k') from by simp [kLex, e]] at q
 | [], _ :: _, _, _, _, _, _, hs, _ => by simp at hs
 | _ :: _, [], _, _, _, _, _, hs, _ => by simp at hs
end
end L2

namespace L2
open PySem PySem.W PyProof.Rows
structure DAt (h : Heap) (d : Addr) (es : Array DictEntry) (ep : Nat) : Prop where
 ex : ∃ o, h.get? d = some o ∧ o.ExactDict ∧ o.data = .dict es ep
def kitO (d : Addr) (i n ep : Nat) : Obj := { cls := .type "dict_keyiterator", data := .fields #[.ref d, .int i 0, .int n 0, .int ep 0] }
section
variable {prog : Program} {w : World} {A : Around} {E : Value → Shared → Prop} {s : Shared} {d it : Addr} {es : Array DictEntry} {ep i : Nat}
end
section
variable {prog : Program} {w : World} {A : Around} {R : Result → Shared → Prop} {d it S : Addr} {es : Array DictEntry} {ep : Nat}
end
end L2

namespace L2
open PySem PySem.W PyProof.Rows
section
variable {prog : Program} {w : World} {A : Around} {E : Value → Shared → Prop} {s : Shared} {d : Addr} {es : Array DictEntry} {ep : Nat}
end
end L2

namespace L2
open PySem PySem.W PyProof.Rows
def TKey (h : Heap) (k : List Key) (v : Value) : Prop := ∃ (p : Addr) (us : List Value), v = .ref p ∧ h.IsTuple p us.toArray ∧ Vals (k.map kV) us
abbrev TKs (h : Heap) : List (List Key) → List Value → Prop := Paired (TKey h)
theorem TKs.get {h : Heap} : ∀ {ks : List (List Key)} {vs : List Value} {i : Nat} {k : List Key}, TKs h ks vs → ks[i]? = some k → ∃ v, vs[i]? = some v ∧ TKey h k v
 | _, _, _, _, .nil, e => by simp at e
 | _, _, 0, _, .cons r _, e => by simp at e; subst e; exact ⟨_, rfl, r⟩
 | _, _, i + 1, _, .cons _ t, e => by
  obtain ⟨v, a, b⟩ := TKs.get t (i := i) (by simpa using e)
  exact ⟨v, by simpa using a, b⟩
theorem zaj7 {h : Heap} {ks : List (List Key)} {vs : List Value} (r : TKs h ks vs) : ks.length = vs.length := Paired.length r
theorem kats {g h : Heap} {b0 : Bool} {t0 : List Bool} (kp : ∀ b o, g.get? b = some o → h.get? b = some o) : ∀ {ks : List (List Key)} {vs : List Value}, TKs g ks vs → (∀ k ∈ ks, k.map Sum.isLeft = b0 :: t0) →
  ∃ fs, fs.length = vs.length ∧ KatTups h vs fs ∧ ∀ f ∈ fs, ∃ k0 : Key, k0.isLeft = b0 ∧ RelV (kV k0) f
 | _, _, .nil, _ => ⟨[], rfl, .nil, by simp⟩
 | k :: ks, v :: vs, .cons r t, hs => by
  obtain ⟨fs, e1, e2, e3⟩ := kats kp t fun x hx => hs x (by simp [hx])
  obtain ⟨p, us, rfl, ⟨o, ho, hc, n, hd⟩, rv⟩ := r
  have hk := hs k (by simp)
  cases k with
  | nil => cases hk
  | cons k0 kr =>
   have hk0 : k0.isLeft = b0 := by have := hk; simp at this; exact this.1
   cases rv with
   | @cons x f xs fr r0 rr =>
    exact ⟨f :: fs, by simp [e1], .cons (kp p o ho) hc hd (by simp) e2, fun y hy => by
     rcases List.mem_cons.mp hy with rfl | hy
     ·exact ⟨k0, hk0, r0⟩
     ·exact e3 y hy⟩
section
variable {prog : Program} {w : World} {A : Around} {E : Value → Shared → Prop} {s : Shared} {a : Addr} {vs : List Value} {ks : List (List Key)} {g : Heap}
theorem zamx {h : Heap} {b0 : Bool} {t0 : List Bool} {C : SortKind → Shared → Prop} (kp : ∀ b o, g.get? b = some o → h.get? b = some o) (r : TKs g ks vs) (hs : ∀ k ∈ ks, k.map Sum.isLeft = b0 :: t0) (hn : 0 < vs.length) (q : C (tuples' true) { s with heap := h }) :
  wpAny (model prog w) A (keyKind' vs.toArray) C (fun _ _ => False) { s with heap := h } := by
 obtain ⟨fs, e1, e2, e3⟩ := kats kp r hs
 cases b0 with
 | true =>
  refine kat_kind (s := { s with heap := h }) (T := .type "int") e2 (by omega) (fun f hf => ?_) (by decide) q
  obtain ⟨k0, hk, rk⟩ := e3 f hf
  cases k0 with
  | inl i => obtain ⟨t, rfl⟩ := rk; exact Looks.of_pure rfl
  | inr x => cases hk
 | false =>
  refine kat_kind (s := { s with heap := h }) (T := .type "str") e2 (by omega) (fun f hf => ?_) (by decide) q
  obtain ⟨k0, hk, rk⟩ := e3 f hf
  cases k0 with
  | inl i => cases hk
  | inr x => obtain ⟨t, rfl⟩ := rk; exact Looks.of_pure rfl
theorem zapc {h : Heap} {t : List Bool} {C : Bool → Shared → Prop} (kp : ∀ b o, g.get? b = some o → h.get? b = some o) (r : TKs g ks vs) (hs : ∀ k ∈ ks, k.map Sum.isLeft = t) {i j : Nat} (hi : i < vs.length) (hj : j < vs.length) (q : C (decide (kLex (ks.getD i []) (ks.getD j []))) { s with heap := h }) :
  wpAny (model prog w) A (keyLt' (tuples' true) (vs.getD i Value.none) (vs.getD j Value.none)) C (fun _ _ => False) { s with heap := h } := by
 have hl := zaj7 r
 have gi : ks[i]? = some (ks.getD i []) := by simp [hl, hi]
 have gj : ks[j]? = some (ks.getD j []) := by simp [hl, hj]
 obtain ⟨v, ev, p, us, rfl, ⟨o, ho, hc, n, hd⟩, rv⟩ := TKs.get r gi
 obtain ⟨v2, ev2, p2, us2, rfl, ⟨o2, ho2, hc2, n2, hd2⟩, rv2⟩ := TKs.get r gj
 have sh : (ks.getD i []).map Sum.isLeft = (ks.getD j []).map Sum.isLeft := (hs _ (List.mem_of_getElem? gi)).trans (hs _ (List.mem_of_getElem? gj)).symm
 have ll : us.length = us2.length := by
  have a := rv.length
  have b := rv2.length
  have c := congrArg List.length sh
  simp at a b c
  omega
 rw [show vs.getD i Value.none = .ref p from by simp [List.getD, ev], show vs.getD j Value.none = .ref p2 from by simp [List.getD, ev2]]
 refine kat_lt (s := { s with heap := h }) (kp p o ho) hd (kp p2 o2 ho2) hd2 ?_
 rw [show decide (us.toArray.size < us2.toArray.size) = false from by simp [ll]]
 exact zaig 0 rv rv2 sh q
end
end L2

namespace L2
open PySem PySem.W PyProof.Rows PySem.Calls
section
variable {prog : Program} {w : World} {A : Around} {E : Value → Shared → Prop} {s : Shared} {a : Addr} {vs : List Value}
end
section
variable {X : Cx}
def rSrtT : List V → Hp → VK → Prop := fun xs H Q => ∃ (a : Addr) (kvs : List (List Key × V)) (b0 : Bool) (t0 : List Bool), xs = [.ref a] ∧ H a = some (.dT kvs) ∧ kvs.length < 64 ∧ (∀ p ∈ kvs, p.1.map Sum.isLeft = b0 :: t0) ∧
 ∀ (D : Addr) (ks : List (List Key)) (ps : List Addr), H D = none → ks.Perm (kvs.map (·.1)) → ks.Pairwise kLex → Paired (fun k p => H p = some (.tup (k.map kV))) ks ps → Q (.ref D) (upd H D (.lst (ps.map V.ref)))
end
end L2

namespace L2
open PySem PySem.W PyProof.Rows
section
variable {prog : Program} {w : World} {K : Type} [DecidableEq K] {knd : HeapKind prog w K} {A : Around} {E : Value → Shared → Prop} {s : Shared}
end
section
variable {X : Cx} {pins : List (Addr × Obj)} {σ : St} {H : Hp} {s : Shared} {A : Around} {E : Value → Shared → Prop}
end
def tDSetD (td ty tx : TE) : TE := fun σ H Q => td σ H fun x H1 => ∃ a, x = .ref a ∧ IsD H1 a ∧ ty σ H1 fun y H2 => tx σ H2 fun z H3 => ∃ b kvs k, H3 a = some (.dT kvs) ∧ y = .ref b ∧ H3 b = some (.tup (k.map kV)) ∧ kvs.length < sizeLine ∧
 (∀ v, valV kvs k = some v → Q v H3) ∧ (valV kvs k = none → Q z (upd H3 a (.dT (putK kvs k z))))
section
variable {X : Cx} {o e f : Expr} {apos cpos : Pos} {td ty tx : TE}
theorem zaj8 {pos : Pos} : Pr (PE X (.Dict [] [] pos) tDNewT) := ⟨zamk⟩
theorem zamy {i value : Expr} {tv : TE} {pos pos' : Pos} (hu : X.A.units + 1 < cLine) (ho : Pr (PE X o td)) (hi : Pr (PE X i ty)) (hv : Pr (PE X value tv)) (hs : swapsWith value (some (.Subscript o i pos')) pos.line X.env = pure false) :
  Pr (PS X (.Assign [.Subscript o i pos'] value pos) (sDPut td ty tv)) := ⟨zaox hu ho.h hi.h hv.h hs⟩
end
end L2

namespace L2
open PySem PySem.W PyProof.Rows
def sqO (k : SK) (xs : List V) : HO := match k with
 | .list => .lst xs
 | .tuple => .tup xs
def ItK (K : PySem.W.Frag) (k : SK) (a : Addr) : It := match k with
 | .list => Itl K a
 | .tuple => Itt K a
def iSq (K : PySem.W.Frag) (k : SK) (tl : TE) : TI := fun σ H R => tl σ H fun x H1 => ∃ a, x = .ref a ∧ (∃ xs, Sq k K H1 a xs) ∧ R (ItK K k a) H1
section
variable {X : Cx} {tg l : Expr}
end
theorem zars {H : Hp} {a : Addr} {kvs : List (List Key × V)} (e : H a = some (.dT kvs)) : IsD H a := .inr ⟨kvs, .inl e⟩
end L2

namespace L2
open PySem PySem.Spec PyProof.Rows PySem.SeqAt
section
variable {prog : Program} {w : World} {A : Around} {E : Value → Shared → Prop} {s : Shared} {I : Addr} {fp wr : List Addr} {G : Array GenState → Array GenState → Prop} {n : Nat} {P : Nat → Value → Prop} {St : Nat → Shared → Prop}
end
section
variable {X : Cx}
def tTR (K : PySem.W.Frag) (ta : TA) : TE := fun σ H Q => ta σ H fun vs H1 => ∃ a xs, vs = [.ref a] ∧ SqL K H1 a xs ∧ ∀ D, H1 D = none → Q (.ref D) (upd H1 D (.tup xs.reverse))
theorem zamz (n : Nat) : (List.range n).all (fun _ => true) = true := by simp
def SameL (H : Hp) (u v : Addr) : Prop := u ≠ v ∧ ∃ ps : List Addr, H u = some (.lst (ps.map V.ref)) ∧ H v = some (.lst (ps.map V.ref))
def rNeW : R2 := fun x y H Q => ∃ (a b : Addr) (us vs : List Addr), x = .ref a ∧ y = .ref b ∧ H a = some (.tup (us.map V.ref)) ∧ H b = some (.tup (vs.map V.ref)) ∧ Paired (SameL H) us vs ∧ Q (.bl false) H
theorem zadn : ∀ {ps : List Addr} {us : List Value}, Vals (ps.map V.ref) us → us = ps.map Value.ref
 | [], _, .nil => rfl
 | p :: ps, _, .cons r t => by
  cases r
  rw [List.map_cons, zadn t]
theorem zado {α β : Type} {R : α → β → Prop} : ∀ {xs : List α} {ys : List β}, Paired R xs ys → ∀ (j : Nat) (h1 : j < xs.length) (h2 : j < ys.length), R xs[j] ys[j]
 | _, _, .nil, j, h1, _ => absurd h1 (Nat.not_lt_zero _)
 | _, _, .cons a t, 0, _, _ => a
 | _, _, .cons a t, j + 1, h1, h2 => by
  have := zado t j (by simpa using h1) (by simpa using h2)
  simpa using this
end
end L2

namespace L2
open PySem PySem.Spec PyProof.Rows PySem.SeqAt
section
variable {X : Cx}
theorem zaj9 {o : Expr} {td : TE} {apos cpos : Pos} (ho : Pr (PE X o td)) (hbase : attributeBase o "clear" X.env (eval o X.env) = eval o X.env := by rfl) (hline : (apos.endLine == cpos.line) = true := by rfl) : Pr (PE X (.Call (.Attribute o "clear" apos) [] [] cpos) (tBM0 X.K "list" rClear td)) :=
 ⟨zanq PySem.F.plainAttrs_list PySem.F.slot_list_clear PySem.F.type_list_clear zame ho.h hbase hline⟩
def Pl (x : V) : Prop := (∃ i, x = .int i) ∨ ∃ p, x = .ref p
def EqD (H : Hp) (x y : V) : Prop := (x = y ∧ Pl x) ∨ ∃ u v zs, x = .ref u ∧ y = .ref v ∧ H u = some (.tup zs) ∧ H v = some (.tup zs) ∧ ∀ z ∈ zs, Pl z
def rNeD : R2 := fun x y H Q => ∃ (a b : Addr) (xs ys : List V), x = .ref a ∧ y = .ref b ∧ H a = some (.tup xs) ∧ H b = some (.tup ys) ∧ Paired (EqD H) xs ys ∧ Q (.bl false) H
end
end L2

namespace L2
open PySem
structure AF (sc : Scope) (N : List Str) : Prop where
 h : ∀ x ∈ N, (sc.names.lookup x = some .local ∨ sc.names.lookup x = some .cell) ∧ (x == ("__debug__" : Str)) = false ∧ (x == ("__classdict__" : Str)) = false
structure AV (sc : Scope) (N : List Str) : Prop where
 h : ∀ x ∈ N, (sc.names.lookup x = some .local ∨ sc.names.lookup x = some .cell ∨ sc.names.lookup x = some .free) ∧ (x == ("__debug__" : Str)) = false ∧ (x == ("__classdict__" : Str)) = false
structure AK (sc : Scope) (N : List Str) : Prop where
 h : ∀ x ∈ N, sc.names.lookup x = some .local
structure AG (sc : Scope) (N : List Str) : Prop where
 h : ∀ x ∈ N, sc.names.lookup x = some .globalImplicit
theorem AF.l {sc : Scope} {N : List Str} (A : AF sc N) (i : Nat) {x : Str} (e : N[i]? = some x) : sc.names.lookup x = some .local ∨ sc.names.lookup x = some .cell := (A.h x (List.mem_of_getElem? e)).1
theorem AK.k {sc : Scope} {N : List Str} (A : AK sc N) (i : Nat) {x : Str} (e : N[i]? = some x) : sc.names.lookup x = some .local := A.h x (List.mem_of_getElem? e)
theorem AG.g {sc : Scope} {N : List Str} (A : AG sc N) (i : Nat) {x : Str} (e : N[i]? = some x) : sc.names.lookup x = some .globalImplicit := A.h x (List.mem_of_getElem? e)
theorem qv {X : Cx} {x : Str} {pos : Pos} (A : AF X.env.scope X.N) (i : Nat) (e : X.N[i]? = some x) : Pr (PE X (.Name x pos) (tVar i)) :=
 have a := A.h x (List.mem_of_getElem? e)
 zajv e (a.1.elim .inl fun h => .inr (.inl h)) a.2.1 a.2.2
theorem qw {X : Cx} {x : Str} {pos : Pos} (A : AV X.env.scope X.N) (i : Nat) (e : X.N[i]? = some x) : Pr (PE X (.Name x pos) (tVar i)) :=
 have a := A.h x (List.mem_of_getElem? e)
 zajv e a.1 a.2.1 a.2.2
end L2

namespace L2
open PySem PySem.Spec PyProof.Rows
section
variable {X : Cx}
def rMulS0 : R2 := fun x y H Q => ∃ c n, x = .str ⟨#[c]⟩ ∧ y = .int n ∧ 0 ≤ n ∧ n ≤ 1000 ∧ ∀ z : Str, z.cps.toList = List.replicate n.toNat c → Q (.str z) H
variable {o value : Expr} {f : Str} {ta tv : TE} {tpos pos : Pos}
end
end L2

namespace L2
open PySem PySem.Spec PyProof.Rows
section
variable {X : Cx}
theorem zahd {o : Expr} {td : TE} {apos cpos : Pos} (ho : Pr (PE X o td)) (hbase : attributeBase o "reverse" X.env (eval o X.env) = eval o X.env := by rfl) (hline : (apos.endLine == cpos.line) = true := by rfl) : Pr (PE X (.Call (.Attribute o "reverse" apos) [] [] cpos) (tBM0 X.K "list" rReverse td)) :=
 ⟨zanq PySem.F.plainAttrs_list PySem.F.slot_list_reverse PySem.F.type_list_reverse zaiv ho.h hbase hline⟩
end
end L2

namespace L2
open PySem PySem.W PyProof.Rows PySem.Calls PySem.SeqAt
theorem zaq9 : ∀ f n r : Nat, r ≤ 1 → minRun' f n r ≤ n + r
 | 0, n, r, _ => Nat.le_refl _
 | f + 1, n, r, h => by
  rw [minRun'_succ]
  split
  ·exact Nat.le_refl _
  ·have := zaq9 f (n / 2) (max r (n % 2)) (by omega)
   omega
theorem zanu {cmp : Nat → Nat → (Bool → Shared → Prop) → Shared → Prop} {p : Array Nat} {s : Shared} : ∀ (f m : Nat), (∀ i, m ≤ i → i < m + f → ∀ C : Bool → Shared → Prop, C false s → cmp (p.getD i 0) (p.getD (i - 1) 0) C s) → (kas_asc p f m).kasWp cmp (fun m' s' => m' = m + f ∧ s' = s) s
 | 0, m, _ => ⟨rfl, rfl⟩
 | f + 1, m, h => by
  refine h m (Nat.le_refl _) (by omega) _ ?_
  show ((if false = true then KasT.ret m else kas_asc p f (m + 1)).kasWp cmp _ s)
  rw [if_neg (by decide)]
  have := zanu (cmp := cmp) (p := p) (s := s) f (m + 1) fun i a b => h i (by omega) (by omega)
  rw [show m + 1 + f = m + (f + 1) from by omega] at this
  exact this
section
variable {prog : Program} {w : World} {A : Around} {E : Value → Shared → Prop} {κ : SortKind} {it : Array Keyed}
theorem zam0 {n : Nat} {Q : Unit → SortSt → Shared → Prop} {s : Shared} (n2 : 2 ≤ n) (hQ : ∀ st', arrOf st' = (List.toArray (List.range n)).map (kas_item it) → failedOf st' = none → Q () st' s)
  (h : (kas_asc (List.toArray (List.range n)) (n - 1) 1).kasWp (kas_cmp prog w A κ it) (fun m s' => m = n ∧ s' = s) s) : kasC (model prog w) A E sortRuns' Q (kas_st κ it (List.toArray (List.range n))) s := by
 have hc : (kas_count n (List.toArray (List.range n))).kasWp (kas_cmp prog w A κ it) (fun r s' => r = (n, List.toArray (List.range n)) ∧ s' = s) s := by
  unfold kas_count
  rw [KasT.kasWp_bind]
  refine kas_wp_mono h fun m s' e => ?_
  obtain ⟨rfl, rfl⟩ := e
  rw [if_pos (beq_self_eq_true _)]
  exact ⟨rfl, rfl⟩
 obtain ⟨r, rfl⟩ : ∃ r, n = r + 2 := ⟨n - 2, by omega⟩
 have zr : (List.toArray (List.range (r + 2))).size = r + 2 := by simp
 generalize hp : List.toArray (List.range (r + 2)) = p at *
 have za : (arrOf (kas_st κ it p)).size = r + 2 := (Array.size_map ..).trans zr
 have mr := zaq9 (r + 2) (r + 2) 0 (by decide)
 rw [sortRuns'_eq]
 refine kasC_bind (kasC_get ?_)
 dsimp only
 simp only [za]
 refine kasC_bind (kasC_range (show kasC _ _ _ (forIn (0 :: 1 :: List.range' 2 r) _ _) _ _ _ from kasC_cons ?_))
 dsimp only
 rw [if_neg (by omega)]
 simp only [Nat.sub_zero, Nat.zero_add]
 refine kasC_bind (kas_count_ (by omega) (Nat.le_of_eq zr.symm) (fun m p' s' _ _ _ e => ?_) hc)
 obtain ⟨e1, rfl⟩ := e
 cases e1
 dsimp only
 rw [if_neg (show ¬ r + 2 < minRun' (r + 2) (r + 2) 0 from by omega)]
 refine kasC_bind (kasC_get ?_)
 rw [show (pendingOf (kas_st κ it p)).back? = none from rfl]
 dsimp only
 refine kasC_bind (kasC_modify (kasC_pure (show kasC _ _ _ (forIn (1 :: List.range' 2 r) _ _) _ _ _ from kasC_cons ?_)))
 dsimp only
 rw [if_pos (Nat.le_refl _)]
 refine kasC_pure ?_
 dsimp only
 refine kasC_bind (kasC_range (show kasC _ _ _ (forIn (0 :: 1 :: List.range' 2 r) _ _) _ _ _ from kasC_cons (kasC_bind (kasC_get ?_))))
 rw [if_pos (show (pendingOf (setPending (kas_st κ it p) ((pendingOf (kas_st κ it p)).push (0, r + 2, 0)))).size ≤ 1 from Nat.le_refl 1)]
 refine kasC_pure ?_
 dsimp only
 exact kasC_pure (hQ _ rfl rfl)
theorem zaka {n : Nat} {a : Addr} {vs : List Value} {s : Shared} {L : Nat → Nat → Prop} [DecidableRel L] {P : PySem.Fin → Shared → Prop} (hO : s.heap.get? a = some (seqObj "list" vs.toArray n)) (n2 : 2 ≤ vs.length) (nz : vs.length ≤ sizeLine)
  (up : ∀ i, 1 ≤ i → i < vs.length → ¬ L i (i - 1))
  (kind : ∀ (h' : Heap) (C : SortKind → Shared → Prop), KeptBut a s.heap h' → C κ { s with heap := h' } → wpAny (model prog w) A (keyKind' vs.toArray) C (fun _ _ => False) { s with heap := h' })
  (ask : ∀ (h' : Heap) (i j : Nat) (C : Bool → Shared → Prop), KeptBut a s.heap h' → i < vs.length → j < vs.length → C (decide (L i j)) { s with heap := h' } → wpAny (model prog w) A (keyLt' κ (vs.getD i Value.none) (vs.getD j Value.none)) C (fun _ _ => False) { s with heap := h' })
  (k : ∀ (c : Nat) (h' : Heap), KeptBut a s.heap h' → h'.get? a = some (seqObj "list" vs.toArray c) → P (.done (.ret .none)) { s with heap := h' }) :
  wpAny (model prog w) A (Builtin.«list.sort» ⟨[.ref a], []⟩) P E s := by
 obtain ⟨e1, hO1⟩ : ∃ e1, (s.heap.update a (Obj.mapSeq fun _ => (#[] : Array Value))).get? a = some (seqObj "list" #[] e1) := ⟨_, get?_update_seq hO fun _ => #[]⟩
 have kb : KeptBut a s.heap (((s.heap.update a (Obj.mapSeq fun _ => (#[] : Array Value))).push (seqObj "tuple" vs.toArray 0)).push (seqObj "list" #[] 0)) := fun b o nb e =>
  Heap.get?_push_of_some _ (Heap.get?_push_of_some _ (by rw [Heap.get?_update_ne _ _ _ _ nb]; exact e))
 have na := Heap.get?_push_of_some (seqObj "list" #[] 0) (Heap.get?_push_of_some (seqObj "tuple" vs.toArray 0) hO1)
 generalize hh : ((s.heap.update a (Obj.mapSeq fun _ => (#[] : Array Value))).push (seqObj "tuple" vs.toArray 0)).push (seqObj "list" #[] 0) = g at kb na
 rw [list_sort_plain]
 refine wpAny_bind (listItems_at hO rfl (wpAny_bind (listUpdate_at hO rfl (wpAny_bind (seqEpoch_at hO1 rfl (wpAny_bind (wpAny_newTuple (wpAny_bind (wpAny_newList (wpAny_holding ?_) (Nat.zero_le _))) (by show vs.length ≤ _; omega))))) (by rw [List.size_toArray]; omega) (Nat.zero_le _))))
 show wpAny (model prog w) A _ P E { s with heap := ((s.heap.update a (Obj.mapSeq fun _ => (#[] : Array Value))).push (seqObj "tuple" vs.toArray 0)).push (seqObj "list" #[] 0) }
 rw [hh]
 dsimp only
 have hn2 : ¬ vs.toArray.size < 2 := by rw [List.size_toArray]; omega
 rw [if_neg hn2, if_neg hn2]
 refine wpAny_bind (wpAny_mono (kind g (fun κ' s0 => κ' = κ ∧ s0 = { s with heap := g }) kb ⟨rfl, rfl⟩) (fun κ' s0 hk => ?_) fun _ _ x => x.elim)
 obtain ⟨rfl, rfl⟩ := hk
 have rg : ∀ i, i < vs.length → (List.toArray (List.range vs.length)).getD i 0 = i := fun i hi => by simp [Array.getD, hi]
 have wp := zanu (cmp := kas_ask prog w A κ' vs) (p := List.toArray (List.range vs.length)) (s := { s with heap := g }) (vs.length - 1) 1 fun i h1 h2 C hC => by
  rw [rg i (by omega), rg (i - 1) (by omega)]
  exact ask g i (i - 1) C kb (by omega) (by omega) (by rw [decide_eq_false (up i h1 (by omega))]; exact hC)
 rw [kat_ask_eq rfl, show 1 + (vs.length - 1) = vs.length from by omega] at wp
 have run := zam0 (E := E) (Q := fun _ st' s' => arrOf st' = (List.toArray (List.range vs.length)).map (kas_item (vs.toArray.zip vs.toArray)) ∧ failedOf st' = none ∧ s' = { s with heap := g }) n2 (fun st' a b => ⟨a, b, rfl⟩) wp
 have est : SortSt.mk' κ' (vs.toArray.zip vs.toArray) #[] 7 none = kas_st κ' (vs.toArray.zip vs.toArray) (List.toArray (List.range vs.length)) := by
  have e := kas_range (vs.toArray.zip vs.toArray)
  rw [show (vs.toArray.zip vs.toArray).size = vs.length by simp] at e
  exact (congrArg (fun z => SortSt.mk' κ' z #[] 7 none) e).symm
 rw [est]
 refine wpAny_bind (wpAny_mono run ?_ fun _ _ e => e)
 rintro ⟨⟨⟩, st'⟩ s' ⟨har, hf, rfl⟩
 dsimp only
 have ez := kat_snds (ks := vs) (vs := vs) rfl har
 have el : ((List.toArray (List.range vs.length)).toList.map fun i => vs.getD i Value.none) = vs := by
  apply List.ext_getElem
  ·simp
  ·intro i h1 h2
   simp [h2]
 rw [el] at ez
 rw [ez]
 obtain ⟨c2, hc2⟩ : ∃ c2, (g.update a (Obj.mapSeq fun _ => vs.toArray)).get? a = some (seqObj "list" vs.toArray c2) := ⟨_, get?_update_seq na fun _ => vs.toArray⟩
 refine wpAny_bind (seqEpoch_at na rfl (wpAny_bind (listUpdate_at na rfl ?_ (Nat.zero_le _) (by rw [List.size_toArray]; omega))))
 rw [hf]
 simp only [bne_self_eq_false, Bool.false_eq_true, if_false]
 refine wpAny_pure (k c2 _ (fun b ob nb e => ?_) hc2)
 rw [Heap.get?_update_ne _ _ _ _ nb]
 exact kb b ob nb e
end
theorem zaih : ∀ a : List Key, ¬ kLex a a
 | [], h => h
 | k :: ks, h => by
  unfold kLex at h
  rw [if_pos rfl] at h
  exact zaih ks h
theorem zanv {P : Program} {w : World} {H : Hp} {h : Heap} (ok : HOk P w H h) : ∀ {ks : List (List Key)} {ps : List Addr}, Paired (fun k p => H p = some (.tup (k.map kV))) ks ps → TKs h ks (ps.map Value.ref)
 | _, _, .nil => .nil
 | _, _, .cons r t => by
  obtain ⟨_, its, rv, tt⟩ := (show ObjOk _ _ _ _ _ (.tup _) from ok _ _ r)
  exact .cons ⟨_, its, rfl, tt, rv⟩ (zanv ok t)
section
variable {X : Cx}
def rSrtL : List V → Hp → VK → Prop := fun xs H Q => ∃ (a : Addr) (ks : List (List Key)) (ps : List Addr) (b0 : Bool) (t0 : List Bool), xs = [.ref a] ∧ H a = some (.lst (ps.map V.ref)) ∧ Paired (fun k p => H p = some (.tup (k.map kV))) ks ps ∧ 2 ≤ ks.length ∧ (∀ k ∈ ks, k.map Sum.isLeft = b0 :: t0) ∧ ks.Pairwise kLex ∧
 ∀ D : Addr, H D = none → Q (.ref D) (upd H D (.lst (ps.map V.ref)))
theorem zagu : CallR X (.builtin "sorted") rSrtL := by
 intro pins s σ H xs us Q I r h
 obtain ⟨a, ks, ps, b0, t0, rfl, ha, pr, n2, hs, pw, q⟩ := h
 obtain ⟨u, rfl, ru⟩ := vals1 r
 cases ru
 obtain ⟨z, its, n, rv, e⟩ := (show ObjOk _ _ _ _ _ (.lst _) from I.hok a _ ha)
 have ei := zadn rv
 have tk := zanv I.hok pr
 rw [← ei] at tk
 have lk := zaj7 tk
 have lz : its.length ≤ sizeLine := by have := rv.length; omega
 refine call_function_entry kind_sorted plain_sorted entry_sorted (args_sorted1 _) ?_
 unfold Builtin.«sorted»
 refine wpAny_bind (m := checkCount "sorted" 1 1 _) (wpAny_pure (wpAny_bind (collect_list ⟨_, e, rfl, n, rfl⟩ ?_ lz)))
 have kp : ∀ b o, s.heap.get? b = some o → ((s.heap.push (seqObj "list" #[] 0)).update s.heap.objs.size (Obj.mapSeq (· ++ its.toArray))).get? b = some o := fun b o e => by
  rw [Heap.get?_update_ne _ _ _ _ (Nat.ne_of_lt (Heap.lt_size e))]
  exact Heap.get?_push_of_some _ e
 have szD : s.heap.objs.size ≤ ((s.heap.push (seqObj "list" #[] 0)).update s.heap.objs.size (Obj.mapSeq (· ++ its.toArray))).objs.size := by rw [Heap.size_update, size_push']; exact Nat.le_succ _
 generalize (s.heap.push (seqObj "list" #[] 0)).update s.heap.objs.size (Obj.mapSeq (· ++ its.toArray)) = h' at kp szD
 refine wpAny_bind (wpAny_newList ?_ lz)
 have hD : (h'.push (seqObj "list" its.toArray 0)).get? h'.objs.size = some (seqObj "list" its.toArray 0) := Heap.get?_push_size _ rfl
 have kD : ∀ b o, s.heap.get? b = some o → b ≠ h'.objs.size ∧ (h'.push (seqObj "list" its.toArray 0)).get? b = some o := fun b o e => ⟨Nat.ne_of_lt (Heap.lt_size (kp b o e)), Heap.get?_push_of_some _ (kp b o e)⟩
 refine wpAny_bind (wpAny_holding (wpAny_call_entry slot_list_sort ⟨_, hD, rfl⟩ entry_list_sort ?_ (args_list_sort _)))
 have kk : ∀ (h3 : Heap), KeptBut h'.objs.size (h'.push (seqObj "list" its.toArray 0)) h3 → ∀ b o, s.heap.get? b = some o → h3.get? b = some o := fun h3 kb b o e => kb b o (kD b o e).1 (kD b o e).2
 refine zaka (κ := tuples' true) (L := fun i j => kLex (ks.getD i []) (ks.getD j [])) hD (by omega) lz (fun i h1 h2 z => ?_) (fun h3 C x q => zamx (kk h3 x) tk hs (by omega) q) (fun h3 i j C x hi hj q => zapc (kk h3 x) tk hs hi hj q) fun c h3 kb e => ⟨_, rfl, wpAny_pure ⟨_, rfl, ?_⟩⟩
 ·have hi : i < ks.length := by omega
  have hj : i - 1 < ks.length := by omega
  have up := List.pairwise_iff_getElem.mp pw (i - 1) i hj hi (by omega)
  have e1 : ks.getD i [] = ks[i] := by simp [hi]
  have e2 : ks.getD (i - 1) [] = ks[i - 1] := by simp [hj]
  rw [e1, e2] at z
  exact zaih _ (zae0 up z)
 ·exact ⟨.ref h'.objs.size, _, I.laid (t' := s.toks) (kk h3 kb) szD (show ObjOk X.prog X.w _ h3 _ (.lst (ps.map V.ref)) from ⟨z, its, c, rv, e⟩), rfl, q _ (I.hok.fresh szD)⟩
def rNeR : R2 := fun x y H Q => ∃ (a b : Addr) (ps : List Addr), x = .ref a ∧ y = .ref b ∧ H a = some (.lst (ps.map V.ref)) ∧ H b = some (.lst (ps.map V.ref)) ∧ Q (.bl false) H
theorem zara (hu : X.A.units + 64 < cLine) : OpR X (compareOp .NotEq) rNeR := by
 intro pins s σ H x y v u Q I rx ry h
 obtain ⟨a, b, ps, rfl, rfl, ha, hb, q⟩ := h
 cases rx
 cases ry
 obtain ⟨_, as, n1, ra, ea⟩ := I.hok _ _ ha
 obtain ⟨_, bs, n2, rb, eb⟩ := I.hok _ _ hb
 have f1 := zadn ra
 have f2 := zadn rb
 subst f1 f2
 have k := RcNeAt.lists (A := X.A) (s := s) (e := fun _ => true) ⟨_, ea, rfl, n1, rfl⟩ ⟨_, eb, rfl, n2, rfl⟩ rfl (by omega) (fun i h1 h2 => PySem.SeqAt.EqAt.same _)
 rw [zamz] at k
 exact k X.prog X.w X.xe _ ⟨.bl _, H, I, rfl, q⟩
end
end L2

namespace L2
open PySem PySem.Spec PyProof.Rows
def tMakeX (C : Addr) (sp : Sp) (t : TA) : TEX := fun σ H Q Ew => t σ H fun vs H1 => ∀ x dx, H1 x = none → H1 dx = none → dx ≠ x →
 sp (.ref x :: vs) (upd (upd H1 dx (.own x)) x (.ins C dx [])) (fun v H2 => v = .non ∧ Q (.ref x) H2) Ew
section
variable {X : Cx} {k : Nat} {C : Addr} {ps : List Str} {sp : Sp} {x : Str} {p pos : Pos} {e : Expr} {es : List Expr} {t : TA}
theorem zakb (hx : Nox X) (D : MakeOk X.prog X.w X.K X.mg X.base (CXE X.prog X.w) k C x ps sp) (hr : Room (k + 1) X.A) (hg : Gl X x) (ha : Pr (PA X (e :: es) t)) (hdb : (x == ("__debug__" : Str)) = false := by decide)
  (he : starEach (e :: es) X.env = (false, eval e X.env) :: starEach es X.env := by rfl) (hpl : (backTo pos (starEach es X.env)).any (·.1) = false := by rfl) : PEX X (.Call (.Name x p) (e :: es) [] pos) (tMakeX C sp t) := by
 obtain ⟨f, fd, F, hb, M, hm⟩ := D.ex
 intro pins s0 σ H0 Q Ew I0 h
 refine wpAny_Call_Name_kw (zada I0 hg hm ?_ hdb)
 refine PySem.W.callWith_K (h₀ := X.base) I0.ok.mod.kin M.kp (wpAny_mono (ha.h pos pins s0 σ H0 _ I0 h) (fun us s ⟨vs, H, I, r, h⟩ => ⟨I.kIn, ?_⟩) fun _ _ z => (hx _ _ z).elim) he hpl
 have hq := h (s.heap.objs.size + 1) s.heap.objs.size (I.hok.fresh (Nat.le_succ _)) (I.hok.fresh (Nat.le_refl _)) (Nat.ne_of_lt (Nat.lt_succ_self _))
 have I2 := Inv.made (C := C) I
 have r2 : Vals (V.ref (s.heap.objs.size + 1) :: vs) (Value.ref (s.heap.objs.size + 1) :: us) := .cons rfl r
 have hl : (Value.ref (s.heap.objs.size + 1) :: us ++ []).length = ps.length := by
  have e := r2.length
  rw [F.len _ _ _ _ hq] at e
  rw [List.append_nil]
  exact e.symm
 have bt := hb _ (Value.ref (s.heap.objs.size + 1) :: us) I2.kIn hl
 rw [List.append_nil] at bt
 refine wpAny_call (zah2 (f := f) I.kIn M.makes M.init (beq_iff_eq.mp M.fn) (codeAny_mono (F.run _ X.stack _ _ ⟨Value.ref (s.heap.objs.size + 1) :: us, []⟩ (Value.ref (s.heap.objs.size + 1) :: us) _ _ _ (hr.make C us []) (I2.env0.make C us []) bt r2 hq) fun r s' hq' => ?_))
 cases r with
 | error e => exact ⟨_, _, I2, hq'⟩
 | ok fl =>
  cases fl with
  | ret u =>
   obtain ⟨v, H', I3, rv, ev, q3⟩ := I2.after hq'
   subst ev
   exact ⟨rv, ⟨V.ref (s.heap.objs.size + 1), H', I3, rfl, q3⟩⟩
  | next => exact False.elim hq'
  | brk => exact False.elim hq'
  | cont => exact False.elim hq'
end
def rIsXs (K : PySem.W.Frag) : List V → Hp → VK → Prop := fun xs H Q => ∃ (ea C : Addr) (dx : Option Addr) (p : Addr) (cs : List V) (b : Bool), xs = [.ref ea, .ref p] ∧ H ea = some (exO ea C dx) ∧ XDx H dx ∧ H p = some (.tup cs) ∧ (∃ as : List Addr, cs = as.map V.ref ∧ XA K C ∧ PySem.W.kitAny K (.ref C) (as.map Value.ref) = some b) ∧ Q (.bl b) H
structure WK (K : PySem.W.Frag) (CR : Addr) (cs : List Addr) (co : Addr) : Prop where
 xa : XA K CR
 kr : PySem.W.kitOne K (.ref CR) (.ref CR) = some true
 kv : PySem.W.kitOne K (.ref CR) (.type "ValueError") = some true
 ks : PySem.W.kitAny K (.ref CR) (cs.map Value.ref) = some false
 ko : PySem.W.kitOne K (.ref CR) (.ref co) = some false
def tPar3 (i j l : Nat) (ta : TA) : TS := fun D σ H => ta σ H fun vs H1 => ∃ v w z, vs = [v, w, z] ∧ D.nx (((σ.set i (some v)).set j (some w)).set l (some z)) H1
end L2

namespace L2
open PySem PySem.Spec PyProof.Rows
def tAsgX (te : TEX) (i : Nat) : TSX := fun D Dx σ H => te σ H (fun v H1 => D.nx (σ.set i (some v)) H1) (Dx σ)
section
variable {X : Cx}
end
end L2

set_option maxHeartbeats 4000000
namespace B17
open PySem L2
abbrev Vs (sc : Scope) (x : Str) : Prop := sc.names.lookup x = some NameKind.local ∨ sc.names.lookup x = some NameKind.cell ∨ sc.names.lookup x = some NameKind.free
abbrev Lc (sc : Scope) (x : Str) : Prop := sc.names.lookup x = some NameKind.local ∨ sc.names.lookup x = some NameKind.cell
abbrev Gi (sc : Scope) (x : Str) : Prop := sc.names.lookup x = some NameKind.globalImplicit
abbrev Nd (x : Str) : Prop := (x == ("__debug__" : Str)) = false
abbrev Nc (x : Str) : Prop := (x == ("__classdict__" : Str)) = false
local macro_rules | `(tactic| walk_at "few") => `(tactic| (with_reducible show (List.length (α := Str × V) _) < 1000); first | exact (by decide : 0 < 1000) | exact (by decide : 1 < 1000) | exact (by decide : 2 < 1000) | exact (by decide : 3 < 1000) | exact (by decide : 4 < 1000) | exact (by decide : 5 < 1000) | exact (by decide : 6 < 1000))
local macro_rules | `(tactic| walk_at "get") => `(tactic| first
 | with_reducible assumption
 | exact zaal
 | (apply zabe; (focus with_reducible assumption); (focus walk_at "get"))
 | (apply zaoy; (focus walk_at "ne"); (focus walk_at "get"))
 | (apply Ch.get; (focus with_reducible assumption); (focus walk_at "get"); (focus walk_at "notin")))
local macro_rules | `(tactic| walk_at "ne") => `(tactic| first | with_reducible assumption | (apply Ne.symm; with_reducible assumption) | (apply zal2; (focus with_reducible assumption); (focus with_reducible assumption); (focus (intro z; cases z))))
local macro_rules | `(tactic| walk_at "notin") => `(tactic| first | exact List.not_mem_nil | (simp only [List.mem_cons, List.not_mem_nil, or_false, not_or, not_false_eq_true]; first | walk_at "ne" | trivial))
local macro_rules | `(tactic| walk_at "scr") => `(tactic| first
 | with_reducible assumption
 | (apply Scr.ch; (focus with_reducible assumption); (focus with_reducible assumption); (focus walk_at "ch"))
 | (apply Scr.same; (focus with_reducible assumption); (focus walk_at "ch")))
local macro_rules | `(tactic| walk_at "ch") => `(tactic| first
 | with_reducible assumption
 | exact Ch.refl _ _
 | exact Ch.put
 | (apply Ch.new; with_reducible assumption)
 | (apply Ch.wk; with_reducible assumption)
 | (apply Ch.own; (focus with_reducible assumption); (focus walk_at "ch"))
 | (apply Ch.trans; (rotate_left; focus with_reducible assumption); (focus walk_at "ch"))
 | (apply Ch.trans; (rotate_left; focus (apply Ch.wk; with_reducible assumption)); (focus walk_at "ch"))
 | (apply Ch.trans; (rotate_left; focus exact Ch.put); (focus walk_at "ch"))
 | (apply Ch.trans; (rotate_left; focus (apply Ch.new; with_reducible assumption)); (focus walk_at "ch")))
local macro_rules | `(tactic| walk_at "sq") => `(tactic| first
 | (apply Scr.sq; walk_at "scr")
 | (apply Exists.intro; walk_at "sq")
 | (refine (‹∀ H : Hp, SqT _ H _ _›) _)
 | (apply SqL.of; walk_at "get")
 | (apply SqT.of; walk_at "get")
 | (apply Or.inl; apply Scr.sq; walk_at "scr")
 | (apply Or.inl; apply SqL.of; walk_at "get")
 | (apply Or.inr; apply SqT.of; walk_at "get"))
local macro_rules | `(tactic| walk_at "arith") => `(tactic| first
 | omega
 | (simp only [List.length_map, List.length_cons, List.length_nil, List.length_append, List.length_singleton, List.length_replicate]; done)
 | ((try dsimp only); (try simp only [List.length_map, List.length_cons, List.length_nil, List.length_append, List.length_singleton, List.length_replicate, sizeLine_eq]); omega)
 | ((try dsimp only); (try simp only [List.length_map, List.length_cons, List.length_nil, List.length_append, List.length_singleton, List.length_replicate, sizeLine_eq] at *); omega))
local macro_rules | `(tactic| walk_at "cond") => `(tactic| first
 | (refine Or.inl (And.intro ?_ ?_) <;> walk_at "arith")
 | (refine Or.inr (And.intro ?_ ?_) <;> walk_at "arith")
 | (refine And.intro ?_ (And.intro ?_ ?_) <;> walk_at "arith")
 | (refine And.intro ?_ ?_ <;> walk_at "arith"))
local macro_rules | `(tactic| walk_at "len") => `(tactic| first
 | with_reducible assumption
 | exact len_one
 | (apply len_slice; walk_at "len")
 | (apply len_app; (focus walk_at "len"); (focus walk_at "len"))
 | exact Nat.le_refl _)
local macro_rules | `(tactic| walk_at "lens") => `(tactic| first
 | (apply len_sum; (focus walk_at "len"); (focus walk_at "len"); (focus first | decide +kernel | walk_at "arith"))
 | (apply len_top; (focus walk_at "len"); (focus first | decide +kernel | walk_at "arith")))
local macro_rules | `(tactic| walk_at "side") => `(tactic| first
 | with_reducible rfl | with_reducible assumption | walk_at "sq" | walk_at "get" | walk_at "scr" | walk_at "ch" | walk_at "ty" | exact TyOf.int _ | exact TyOf.str _ | (apply TyOf.tup; walk_at "get") | (apply TyOf.lst; walk_at "get") | exact TyOf.bl _ | exact TyOf.non | walk_at "few" | decide | omega | walk_at "arith" | walk_at "cond" | ((try simp only [List.length_map]); with_reducible assumption) | walk_at "lens" | (apply Or.inr; with_reducible assumption) | walk_at "user" | exact rfl | assumption)
local macro_rules | `(tactic| walk_at "ty") => `(tactic| (refine Or.inl (And.intro rfl ?_); apply Exists.intro; walk_at "sq"))
local macro_rules | `(tactic| walk_at "user") => `(tactic| fail)
local macro_rules | `(tactic| walk_at "rd1") => `(tactic| first
 | apply Exists.intro
 | (refine And.intro rfl ?_)
 | (refine And.intro (show V.str _ = L2.kV (Sum.inr _) from rfl) ?_)
 | (refine And.intro (show V.int _ = L2.kV (Sum.inl _) from rfl) ?_)
 | (refine And.intro (L2.zamo _ _) ?_)
 | (apply And.intro; (focus (walk_at "side"; done)))
 | apply Atx.head
 | (apply Atx.of; (focus first | exact rfl | with_reducible assumption | ((try simp only [List.length_map]); with_reducible assumption)))
 | (apply Or.inl; apply Exists.intro; (refine And.intro rfl ?_))
 | (apply Or.inr; apply Exists.intro; (refine And.intro rfl ?_))
 | (apply Or.inl; apply And.intro; (focus walk_at "sq"))
 | (apply Or.inr; apply And.intro; (focus walk_at "sq"))
 | (intro _)
 | walk_at "fin")
local macro_rules | `(tactic| walk_at "fin") => `(tactic| first | exact rfl | (walk_at "get"; done))
local macro_rules | `(tactic| walk_at "rd") => `(tactic| repeat walk_at "rd1")
section
def top (i : Nat) : Stmt := PySem.Challenge.pw_bitfloor_k45_floors.main.body.getD i (.Pass ⟨0, 0, 0, 0⟩)
theorem chFree {H H' : Hp} (c : Ch [] H H') {r : Addr} (h : H' r = none) : H r = none := by
 cases e : H r with
 | none => rfl
 | some o => rw [c r o e (by simp)] at h; cases h
def belB (i b : Int) : Bool := decide (0 ≤ i) && decide (i < b)
abbrev Wr := List Key
abbrev WsAt (H : Hp) : List Wr → List Addr → Prop := Paired (fun k p => H p = some (.tup (k.map kV)))
theorem zaca {α β : Type} {R S : α → β → Prop} (h : ∀ x y, R x y → S x y) : ∀ {xs : List α} {ys : List β}, Paired R xs ys → Paired S xs ys
 | _, _, .nil => .nil
 | _, _, .cons a t => .cons (h _ _ a) (zaca h t)
theorem WsAt.ch {H H' : Hp} (c : Ch [] H H') {ks : List Wr} {ps : List Addr} (s : WsAt H ks ps) : WsAt H' ks ps := zaca (fun p xs h => c.get h (by simp)) s
theorem zanw {H : Hp} : ∀ {ws ws' : List Wr} {ps ps' : List Addr}, WsAt H ws ps → WsAt H ws' ps' → WsAt H (ws ++ ws') (ps ++ ps')
 | _, _, _, _, .nil, b => b
 | _, _, _, _, .cons h t, b => .cons h (zanw t b)
def fldsF (r c t : Int) : List (Str × V) := [("rows", .int r), ("columns", .int c), ("tracks", .int t)]
theorem zacm (r c t : Int) : List.lookup (Str.ofString "rows") (fldsF r c t) = some (.int r) := rfl
theorem zab4 (r c t : Int) : List.lookup (Str.ofString "columns") (fldsF r c t) = some (.int c) := rfl
theorem zaci (r c t : Int) : List.lookup (Str.ofString "tracks") (fldsF r c t) = some (.int t) := rfl
section
variable {P : Program} {w : World} {K : PySem.W.Frag} {mg : Str → Option Value} {base : Heap} {f : Addr} {fd : FuncData} {k : Nat}
theorem zaag : bootBuiltins "isinstance" = some (.builtin "isinstance") := by decide +kernel
theorem zafm : bootBuiltins "bool" = some (.type "bool") := by decide +kernel
theorem zafn : ("bool" : Str) ≠ "__name__" := by decide +kernel
theorem zafo : Nd "bool" := by decide +kernel
theorem zaah : ("isinstance" : Str) ≠ "__name__" := by decide +kernel
theorem zaai : Nd "isinstance" := by decide +kernel
theorem zagv : bootBuiltins "int" = some (.type "int") := by decide +kernel
theorem zagw : ("int" : Str) ≠ "__name__" := by decide +kernel
theorem zagx : Nd "int" := by decide +kernel
theorem zadf : Nd "is_whole" := by decide +kernel
theorem zace : bootBuiltins "tuple" = some (.type "tuple") := by decide +kernel
theorem zacf : ("tuple" : Str) ≠ "__name__" := by decide +kernel
theorem zacg : Nd "tuple" := by decide +kernel
theorem zacr : bootBuiltins "list" = some (.type "list") := by decide +kernel
theorem zacs : ("list" : Str) ≠ "__name__" := by decide +kernel
theorem zact : Nd "list" := by decide +kernel
theorem zab0 : ("len" : Str) ≠ "__name__" := by decide +kernel
theorem zab1 : Nd "len" := by decide +kernel
theorem zadz : Nd "is_listed" := by decide +kernel
theorem zab7 : Nd "is_below" := by decide +kernel
theorem zai0 : Nd "is_pair" := by decide +kernel
theorem zagy : Nd "is_box" := by decide +kernel
theorem zacl : Nd "OutOfFloor" := by decide +kernel
theorem gl14 : AG (defScope (top 14)) ["isinstance", "bool", "int"] := ⟨by decide +kernel⟩
theorem av14 : AF (defScope (top 14)) ["thing"] := ⟨by decide +kernel⟩
def spWhole : Sp := fun vs H Q _ => ∃ i : Int, vs = [.int i] ∧ Q (.bl true) H
theorem scWhole : FnScope ["thing"] ["thing"] (defScope (top 14)) := ⟨rfl, rfl, rfl, by decide +kernel, rfl, by decide +kernel, by decide +kernel⟩
theorem zam1 (F : Fun K "is_whole" "is_whole" (top 14) f fd) (z_isinstance : mg "isinstance" = none) (z_int : mg "int" = none) (z_bool : mg "bool" = none) : FnOk P w K mg base CX0 (k + 1) f fd ["thing"] spWhole := by
 have nd := scWhole.nd
 refine F.ok scWhole (fun vs H Q E h => by obtain ⟨i, rfl, _⟩ := h; rfl) (fun cdv A outer s H vs Q E hr h => ?_)
 obtain ⟨i, rfl, q⟩ := h
 refine ⟨_, (Pr.h (zaak (zaap (zabv (zaaj zaay (gl14.g 0 rfl) z_isinstance zaag (zaaa (qv av14 0 rfl) (zaaa (zaax (v := .ty "int") (gl14.g 2 rfl) z_int zagv rfl zagw zagx) zaab)) zaah zaai) (zab6 (zafc (zaaj zaay (gl14.g 0 rfl) z_isinstance zaag (zaaa (qv av14 0 rfl) (zaaa (zaax (v := .ty "bool") (gl14.g 1 rfl) z_bool zafm rfl zafn zafo) zaab)) zaah zaai))))))), ?_⟩
 (try dsimp only [cxOf])
 walk_at "rd"
 exact q
theorem av15 : AF (defScope (top 15)) ["thing", "bound"] := ⟨by decide +kernel⟩
theorem gl15 : AG (defScope (top 15)) ["is_whole"] := ⟨by decide +kernel⟩
def spBelow : Sp := fun vs H Q _ => ∃ i b : Int, vs = [.int i, .int b] ∧ Q (.bl (belB i b)) H
theorem scBelow : FnScope ["thing", "bound"] ["thing", "bound"] (defScope (top 15)) := ⟨rfl, rfl, rfl, by decide +kernel, rfl, by decide +kernel, by decide +kernel⟩
theorem zam2 (F : Fun K "is_below" "is_below" (top 15) f fd) (Dis_whole : DefOk P w K mg base CX0 k "is_whole" ["thing"] spWhole) : FnOk P w K mg base CX0 (k + 1) f fd ["thing", "bound"] spBelow := by
 have nd := scBelow.nd
 refine F.ok scBelow (fun vs H Q E h => by obtain ⟨i, b, rfl, _⟩ := h; rfl) (fun cdv A outer s H vs Q E hr h => ?_)
 obtain ⟨i, b, rfl, q⟩ := h
 refine ⟨_, (Pr.h (zaak (zaap (zabv (zaan Dis_whole hr (gl15.g 0 rfl) pass0 (zaaa (qv av15 0 rfl) zaab zaac) zadf) (zab6 (zajw zag6 zag5 zaad (qv av15 0 rfl) (qv av15 1 rfl))))))), ?_⟩
 (try dsimp only [cxOf])
 walk_at "rd"
 refine ite2 (fun h0 => ?_) (fun h0 => ?_)
 ·walk_at "rd"
  have e : belB i b = decide (i < b) := by show (decide (0 ≤ i) && decide (i < b)) = _; rw [h0, Bool.true_and]
  rw [e] at q
  exact q
 ·have h0 : decide (0 ≤ i) = false := by simpa using h0
  have e : belB i b = false := by show (decide (0 ≤ i) && decide (i < b)) = _; rw [h0, Bool.false_and]
  rw [e] at q
  walk_at "rd"
  all_goals first | exact q | (rw [h0]; exact q)
theorem gl16 : AG (defScope (top 16)) ["tuple", "list", "isinstance"] := ⟨by decide +kernel⟩
theorem av16 : AF (defScope (top 16)) ["thing"] := ⟨by decide +kernel⟩
def spListed : Sp := fun vs H Q _ => ∃ (a : Addr) (xs : List V), vs = [.ref a] ∧ H a = some (.tup xs) ∧ ∀ H', Ch [] H H' → Q (.bl true) H'
theorem scListed : FnScope ["thing"] ["thing"] (defScope (top 16)) := ⟨rfl, rfl, rfl, by decide +kernel, rfl, by decide +kernel, by decide +kernel⟩
theorem zakc (F : Fun K "is_listed" "is_listed" (top 16) f fd) (z_isinstance : mg "isinstance" = none) (z_list : mg "list" = none) (z_tuple : mg "tuple" = none) : FnOk P w K mg base CX0 (k + 1) f fd ["thing"] spListed := by
 have nd := scListed.nd
 refine F.ok scListed (fun vs H Q E h => by obtain ⟨a, xs, rfl, _⟩ := h; rfl) (fun cdv A outer s H vs Q E hr h => ?_)
 obtain ⟨a, xs, rfl, hx, q⟩ := h
 refine ⟨_, (Pr.h (zaak (zaap (zaaj zaj1 (gl16.g 2 rfl) z_isinstance zaag (zaaa (qv av16 0 rfl) (zaaa (zaam (zaaa (zaax (v := .ty "list") (gl16.g 1 rfl) z_list zacr rfl zacs zact) (zaaa (zaax (v := .ty "tuple") (gl16.g 0 rfl) z_tuple zace rfl zacf zacg) zaab zaac) zaac)) zaab)) zaah zaai)))), ?_⟩
 (try dsimp only [cxOf])
 walk_at "rd"
 exact q _ (Ch.new (by assumption) _)
theorem gl17 : AG (defScope (top 17)) ["len", "is_listed"] := ⟨by decide +kernel⟩
theorem av17 : AF (defScope (top 17)) ["thing"] := ⟨by decide +kernel⟩
def spPair : Sp := fun vs H Q _ => ∃ (a : Addr) (x y : V), vs = [.ref a] ∧ H a = some (.tup [x, y]) ∧ ∀ H', Ch [] H H' → Q (.bl true) H'
theorem scPair : FnScope ["thing"] ["thing"] (defScope (top 17)) := ⟨rfl, rfl, rfl, by decide +kernel, rfl, by decide +kernel, by decide +kernel⟩
theorem zapd (F : Fun K "is_pair" "is_pair" (top 17) f fd) (Dis_listed : DefOk P w K mg base CX0 k "is_listed" ["thing"] spListed) (z_len : mg "len" = none) : FnOk P w K mg base CX0 (k + 1) f fd ["thing"] spPair := by
 have nd := scPair.nd
 refine F.ok scPair (fun vs H Q E h => by obtain ⟨a, x, y, rfl, _⟩ := h; rfl) (fun cdv A outer s H vs Q E hr h => ?_)
 obtain ⟨a, x, y, rfl, hx, q⟩ := h
 refine ⟨_, (Pr.h (zaak (zaap (zabv (zaan Dis_listed hr (gl17.g 1 rfl) pass0 (zaaa (qv av17 0 rfl) zaab zaac) zadz) (zab6 (zabu zacw (zaaj zaau (gl17.g 0 rfl) z_len PySem.boot_len (zaaa (qv av17 0 rfl) zaab zaac) zab0 zab1) zaad (nomark _))))))), ?_⟩
 (try dsimp only [cxOf])
 refine ⟨_, rfl, a, [x, y], rfl, hx, fun H1 c1 => ?_⟩
 have hx1 : H1 a = some (.tup [x, y]) := c1.get hx (by simp)
 walk_at "rd"
 exact q _ c1
theorem gl20 : AG (defScope (top 20)) ["is_below", "is_pair"] := ⟨by decide +kernel⟩
theorem av20 : AF (defScope (top 20)) ["floor", "thing"] := ⟨by decide +kernel⟩
def spBox (C : Addr) : Sp := fun vs H Q _ => ∃ (fl dx bx : Addr) (r c t x y : Int), vs = [.ref fl, .ref bx] ∧ H fl = some (.ins C dx (fldsF r c t)) ∧ H bx = some (.tup [.int x, .int y]) ∧ ∀ H', Ch [] H H' → Q (.bl (belB x r && belB y c)) H'
theorem scBox : FnScope ["floor", "thing"] ["floor", "thing"] (defScope (top 20)) := ⟨rfl, rfl, rfl, by decide +kernel, rfl, by decide +kernel, by decide +kernel⟩
theorem zarb {C : Addr} (F : Fun K "is_box" "is_box" (top 20) f fd) (cl : Cls K C) (nR : NoAttr K C "rows") (nC : NoAttr K C "columns") (Dis_pair : DefOk P w K mg base CX0 k "is_pair" ["thing"] spPair) (Dis_below : DefOk P w K mg base CX0 k "is_below" ["thing", "bound"] spBelow) :
  FnOk P w K mg base CX0 (k + 1) f fd ["floor", "thing"] (spBox C) := by
 have nd := scBox.nd
 refine F.ok scBox (fun vs H Q E h => by obtain ⟨fl, dx, bx, r, c, t, x, y, rfl, _⟩ := h; rfl) (fun cdv A outer s H vs Q E hr h => ?_)
 obtain ⟨fl, dx, bx, r, c, t, x, y, rfl, hf, hb, q⟩ := h
 refine ⟨_, (Pr.h (zaak (zaap (zabv (zaan Dis_pair hr (gl20.g 1 rfl) pass0 (zaaa (qv av20 1 rfl) zaab zaac) zai0) (zabv (zaan Dis_below hr (gl20.g 0 rfl) pass0 (zaaa (zaa1 zaa9 (qv av20 1 rfl) zaad (fun _ _ => rfl)) (zaaa (zabq (qv av20 0 rfl) rfl) zaab zaa0) zaat) zab7) (zab6 (zaan Dis_below hr (gl20.g 0 rfl) pass0 (zaaa (zaa1 zaa9 (qv av20 1 rfl) zaad (fun _ _ => rfl)) (zaaa (zabq (qv av20 0 rfl) rfl) zaab zaa0) zaat) zab7))))))), ?_⟩
 (try dsimp only [cxOf])
 have fr := zacm r c t
 have fc := zab4 r c t
 walk_at "rd"
 rename_i H1 c1
 refine ite2 (fun hb => ?_) (fun hb => ?_)
 ·rw [hb, Bool.true_and] at q
  walk_at "rd"
  exact q _ c1
 ·rw [Bool.eq_false_iff.mpr hb, Bool.false_and] at q
  exact q _ c1
theorem glx22 : AG (defScope (top 22)) ["is_below", "is_box", "OutOfFloor"] := ⟨by decide +kernel⟩
theorem av22 : AF (defScope (top 22)) ["floor", "box", "side", "track"] := ⟨by decide +kernel⟩
def wd (b : Bool) : Str := if b then "h" else "v"
abbrev Wi := Bool × Int × Int × Int
def wK (w : Wi) : List Key := [.inr (wd w.1), .inl w.2.1, .inl w.2.2.1, .inl w.2.2.2]
def wireV (w : Wi) : List V := [.str (wd w.1), .int w.2.1, .int w.2.2.1, .int w.2.2.2]
def sideW (x y sd t : Int) : Wi := if sd = 0 then (true, x, y - 1, t) else if sd = 1 then (true, x, y, t) else if sd = 2 then (false, x - 1, y, t) else (false, x, y, t)
def sideB (r c t x y sd tr : Int) : Bool := belB x r && belB y c && (belB sd 4 && belB tr t)
def spSideX (C CO : Addr) : Sp := fun vs H Q E => ∃ (fl dx bx : Addr) (r c t x y sd tr : Int), vs = [.ref fl, .ref bx, .int sd, .int tr] ∧ H fl = some (.ins C dx (fldsF r c t)) ∧ H bx = some (.tup [.int x, .int y]) ∧
 (sideB r c t x y sd tr = true → ∀ p H', Ch [] H H' → H p = none → H' p = some (.tup ((wK (sideW x y sd tr)).map kV)) → Q (.ref p) H') ∧ (sideB r c t x y sd tr = false → ∀ H', Ch [] H H' → E (.ref CO) none H')
theorem scSide : FnScope ["floor", "box", "side", "track"] ["floor", "box", "side", "track"] (defScope (top 22)) := ⟨rfl, rfl, rfl, by decide +kernel, rfl, by decide +kernel, by decide +kernel⟩
theorem zam3 {C CO : Addr} (F : Fun K "side_wire" "side_wire" (top 22) f fd) (cl : Cls K C) (nT : NoAttr K C "tracks") (Dis_box : DefOk P w K mg base CX0 k "is_box" ["floor", "thing"] (spBox C)) (Dis_below : DefOk P w K mg base CX0 k "is_below" ["thing", "bound"] spBelow)
  (m_OutOfFloor : mg "OutOfFloor" = some (.ref CO)) (X_OutOfFloor : XC K CO) : FnOk P w K mg base (CXE P w) (k + 1) f fd ["floor", "box", "side", "track"] (spSideX C CO) := by
 have nd := scSide.nd
 refine F.okE scSide (fun vs H Q E h => by obtain ⟨fl, dx, bx, r, c, t, x, y, sd, tr, rfl, _⟩ := h; rfl) (fun cdv A outer s H vs Q E hr h => ?_)
 obtain ⟨fl, dx, bx, r, c, t, x, y, sd, tr, rfl, hf, hb, q1, q2⟩ := h
 refine ⟨_, (Pr.h (zaaf (zaa4 (zab8 (zab9 (zabj (zaa3 (zaan Dis_box hr (glx22.g 1 rfl) pass0 (zaaa (qv av22 0 rfl) (zaaa (qv av22 1 rfl) zaab zaac) zaac) zagy))) (zab9 (zabj (zaa3 (zaan Dis_below hr (glx22.g 0 rfl) pass0 (zaaa (qv av22 2 rfl) (zaaa zaad zaab zaae) zaac) zab7))) (zabx (zabj (zaa3 (zaan Dis_below hr (glx22.g 0 rfl) pass0 (zaaa (qv av22 3 rfl) (zaaa (zabq (qv av22 0 rfl) rfl) zaab zaa0) zaac) zab7))))))) (zaak (zac9 (glx22.g 2 rfl) m_OutOfFloor X_OutOfFloor (zaaa zaa2 zaab zaae) zacl)) zaas) (zaaf (zaa4 (zaaw zacw (qv av22 2 rfl) zaad (nomark _)) (zaak (zaap (zaam (zaaa zaa2 (zaaa (zaa1 zaa9 (qv av22 1 rfl) zaad (fun _ _ => rfl)) (zaaa (zaaq zack (zaa1 zaa9 (qv av22 1 rfl) zaad (fun _ _ => rfl)) zaad) (zaaa (qv av22 3 rfl) zaab zaac) zaa7) zaat) zaae)))) zaas) (zaaf (zaa4 (zaaw zacw (qv av22 2 rfl) zaad (nomark _)) (zaak (zaap (zaam (zaaa zaa2 (zaaa (zaa1 zaa9 (qv av22 1 rfl) zaad (fun _ _ => rfl)) (zaaa (zaa1 zaa9 (qv av22 1 rfl) zaad (fun _ _ => rfl)) (zaaa (qv av22 3 rfl) zaab zaac) zaat) zaat) zaae)))) zaas) (zaaf (zaa4 (zaaw zacw (qv av22 2 rfl) zaad (nomark _)) (zaak (zaap (zaam (zaaa zaa2 (zaaa (zaaq zack (zaa1 zaa9 (qv av22 1 rfl) zaad (fun _ _ => rfl)) zaad) (zaaa (zaa1 zaa9 (qv av22 1 rfl) zaad (fun _ _ => rfl)) (zaaa (qv av22 3 rfl) zaab zaac) zaat) zaa7) zaae)))) zaas) (zaak (zaap (zaam (zaaa zaa2 (zaaa (zaa1 zaa9 (qv av22 1 rfl) zaad (fun _ _ => rfl)) (zaaa (zaa1 zaa9 (qv av22 1 rfl) zaad (fun _ _ => rfl)) (zaaa (qv av22 3 rfl) zaab zaac) zaat) zaat) zaae))))))))), ?_⟩
 (try dsimp only [cxOf])
 have ft := zaci r c t
 walk_at "rd"
 rename_i H1 c1
 have bel : ∀ i b : Int, belB i b = true → 0 ≤ i ∧ i < b := fun i b h => by simpa [belB] using h
 cases e1 : (belB x r && belB y c) with
 | false =>
  have z : sideB r c t x y sd tr = false := by unfold sideB; rw [e1]; rfl
  walk_at "rd"
  exact q2 z _ c1
 | true =>
  cases e2 : belB sd 4 with
  | false =>
   have z : sideB r c t x y sd tr = false := by unfold sideB; rw [e1, e2]; rfl
   walk_at "rd"
   rw [e2]
   walk_at "rd"
   exact q2 z _ c1
  | true =>
   cases e3 : belB tr t with
   | false =>
    have z : sideB r c t x y sd tr = false := by unfold sideB; rw [e1, e2, e3]; rfl
    walk_at "rd"
    rw [e2]
    walk_at "rd"
    rw [e3]
    walk_at "rd"
    exact q2 z _ c1
   | true =>
    have z : sideB r c t x y sd tr = true := by unfold sideB; rw [e1, e2, e3]; rfl
    have q1 := q1 z
    obtain ⟨s0, s1⟩ := bel _ _ e2
    clear q2 z bel e1
    walk_at "rd"
    rw [e2]
    walk_at "rd"
    rw [e3]
    clear e2 e3
    have : sd = 0 ∨ sd = 1 ∨ sd = 2 ∨ sd = 3 := by omega
    rcases this with rfl | rfl | rfl | rfl
    all_goals
     walk_at "rd"
     rename_i p hp
     exact q1 p _ (c1.trans (Ch.new hp _)) (chFree c1 hp) zaal
end
end

section
def szB (z m : Int) : Bool := decide (1 ≤ z) && decide (z ≤ m)
def sizeB (r c t : Int) : Bool := szB r 10 && (szB c 10 && szB t 8)
section
variable {P : Program} {w : World} {K : PySem.W.Frag} {mg : Str → Option Value} {base : Heap} {f : Addr} {fd : FuncData} {k : Nat}
theorem zae1 : Nd "NoFloor" := by decide +kernel
theorem zaeh : bootBuiltins "all" = some (.builtin "all") := by decide +kernel
theorem zaei : ("all" : Str) ≠ "__name__" := by decide +kernel
theorem zaej : Nd "all" := by decide +kernel
theorem av19m0 : AF (defScope (inClass (top 19) 0)) ["self", "rows", "columns", "tracks", "size", "most"] := ⟨by decide +kernel⟩
theorem glx19m0 : AG (defScope (inClass (top 19) 0)) ["is_whole", "NoFloor"] := ⟨by decide +kernel⟩
def spFloorX (C CN : Addr) : Sp := fun vs H Q E => ∃ (x dx : Addr) (r c t : Int), vs = [.ref x, .int r, .int c, .int t] ∧ H x = some (.ins C dx []) ∧ (sizeB r c t = true → ∀ H', Ch [x] H H' → H' x = some (.ins C dx (fldsF r c t)) → Q .non H') ∧ (sizeB r c t = false → ∀ H', Ch [] H H' → E (.ref CN) none H')
theorem scFloor : FnScope ["self", "rows", "columns", "tracks", "size", "most"] ["self", "rows", "columns", "tracks"] (defScope (inClass (top 19) 0)) := ⟨rfl, rfl, rfl, by decide +kernel, rfl, by decide +kernel, by decide +kernel⟩
theorem zakd {C CN : Addr} (F : Fun K "__init__" "Floor.__init__" (inClass (top 19) 0) f fd) (cl : Cls K C) (nR : NoAttr K C "rows") (nC : NoAttr K C "columns") (nT : NoAttr K C "tracks") (Dis_whole : DefOk P w K mg base CX0 k "is_whole" ["thing"] spWhole)
  (m_NoFloor : mg "NoFloor" = some (.ref CN)) (X_NoFloor : XC K CN) : FnOk P w K mg base (CXE P w) (k + 1) f fd ["self", "rows", "columns", "tracks"] (spFloorX C CN) := by
 have nd := scFloor.nd
 refine F.okE scFloor (fun vs H Q E h => by obtain ⟨x, dx, r, c, t, rfl, _⟩ := h; rfl) (fun cdv A outer s H vs Q E hr h => ?_)
 obtain ⟨x, dx, r, c, t, rfl, hx, q1, q2⟩ := h
 refine ⟨_, (Pr.h (zaaf (zabk powE rfl (zafe (zaam (zaaa (zaam (zaaa (qv av19m0 1 rfl) (zaaa zaad zaab zaae) zaac)) (zaaa (zaam (zaaa (qv av19m0 2 rfl) (zaaa zaad zaab zaae) zaac)) (zaaa (zaam (zaaa (qv av19m0 3 rfl) (zaaa zaad zaab zaae) zaac)) zaab zaar) zaar) zaar))) (zaee rfl (zaba (zaao (i := 4) nd rfl (av19m0.l 4 rfl)) (zaba (zaao (i := 5) nd rfl (av19m0.l 5 rfl)) zaco))) (zaak (zaa4 (zab8 (zab9 (zabj (zaa3 (zaan Dis_whole hr (glx19m0.g 0 rfl) pass0 (zaaa (qv av19m0 4 rfl) zaab zaac) zadf))) (zabx (zabj (zaed zag6 zag6 zaad (qv av19m0 4 rfl) (qv av19m0 5 rfl)))))) (zaak (zac9 (glx19m0.g 1 rfl) m_NoFloor X_NoFloor (zaaa zaa2 zaab zaae) zae1)) zaas))) (zaaf (zag9 (qv av19m0 0 rfl) (qv av19m0 1 rfl) rfl) (zaaf (zag9 (qv av19m0 0 rfl) (qv av19m0 2 rfl) rfl) (zaak (zag9 (qv av19m0 0 rfl) (qv av19m0 3 rfl) rfl)))))), ?_⟩
 (try dsimp only [cxOf])
 walk_at "rd"
 rename_i a1 h1 a2 h2 a3 h3 a4 h4
 obtain ⟨H4, e4⟩ : ∃ H4, upd (upd (upd (upd H a1 (.tup [.int r, .int 10])) a2 (.tup [.int c, .int 10])) a3 (.tup [.int t, .int 8])) a4 (.tup [.ref a1, .ref a2, .ref a3]) = H4 := ⟨_, rfl⟩
 have ch4 : Ch [] H H4 := by rw [← e4]; exact (((Ch.new h1 _).trans (Ch.new h2 _)).trans (Ch.new h3 _)).trans (Ch.new h4 _)
 have g4 : H4 a4 = some (.tup [.ref a1, .ref a2, .ref a3]) := by rw [← e4]; exact zaal
 have g3 : H4 a3 = some (.tup [.int t, .int 8]) := by rw [← e4]; exact zabe h4 zaal
 have g2 : H4 a2 = some (.tup [.int c, .int 10]) := by rw [← e4]; exact zabe h4 (zabe h3 zaal)
 have g1 : H4 a1 = some (.tup [.int r, .int 10]) := by rw [← e4]; exact zabe h4 (zabe h3 (zabe h2 zaal))
 rw [e4]
 clear e4 h1 h2 h3 h4
 refine zah5 (xs := [.ref a1, .ref a2, .ref a3]) (fun i σ H' => H' = H4 ∧ ((0 < i → szB r 10 = true) ∧ (1 < i → szB c 10 = true) ∧ (2 < i → szB t 8 = true)) ∧ ∃ u v, σ = [some (.ref x), some (.int r), some (.int c), some (.int t), u, v]) ⟨rfl, ⟨fun h => absurd h (by decide), fun h => absurd h (by decide), fun h => absurd h (by decide)⟩, _, _, rfl⟩ ?_ ?_ ?_
 ·rintro i σ H' hi ⟨rfl, _⟩
  exact SqT.of g4
 ·rintro i z σ H' hz ⟨rfl, ⟨i1, i2, i3⟩, u, v, rfl⟩
  obtain ⟨b, sz, m, hb, hy, hn, rfl⟩ : ∃ (b : Addr) (sz m : Int), H' b = some (.tup [.int sz, .int m]) ∧ (szB sz m = true → (0 < i + 1 → szB r 10 = true) ∧ (1 < i + 1 → szB c 10 = true) ∧ (2 < i + 1 → szB t 8 = true)) ∧ (szB sz m = false → sizeB r c t = false) ∧ z = .ref b := by
   have hi : i < 3 := (List.getElem?_eq_some_iff.mp hz).1
   have : i = 0 ∨ i = 1 ∨ i = 2 := by omega
   unfold sizeB
   rcases this with rfl | rfl | rfl
   ·cases hz; exact ⟨a1, r, 10, g1, fun h => ⟨fun _ => h, fun z => absurd z (by decide), fun z => absurd z (by decide)⟩, fun h => by rw [h]; rfl, rfl⟩
   ·cases hz; exact ⟨a2, c, 10, g2, fun h => ⟨fun _ => i1 (by decide), fun _ => h, fun z => absurd z (by decide)⟩, fun h => by rw [h]; simp, rfl⟩
   ·cases hz; exact ⟨a3, t, 8, g3, fun h => ⟨fun _ => i1 (by decide), fun _ => i2 (by decide), fun _ => h⟩, fun h => by rw [h]; simp, rfl⟩
  clear i1 i2 i3
  walk_at "rd"
  refine ite2 (fun h1 => ?_) (fun h1 => ?_)
  ·walk_at "rd"
   cases h2 : decide (sz ≤ m) with
   | true =>
    have z : szB sz m = true := by unfold szB; rw [h1, h2]; rfl
    exact iteF ⟨rfl, hy z, _, _, rfl⟩
   | false =>
    have z : szB sz m = false := by unfold szB; rw [h1, h2]; rfl
    have q2 := q2 (hn z)
    clear hy hn h1 h2 z
    walk_at "rd"
    exact q2 _ ch4
  ·have z : szB sz m = false := by unfold szB; rw [Bool.eq_false_iff.mpr h1]; rfl
   have q2 := q2 (hn z)
   clear hy hn h1 z
   walk_at "rd"
   exact q2 _ ch4
 ·rintro σ H' ⟨rfl, ⟨i1, i2, i3⟩, u, v, rfl⟩
  have z : sizeB r c t = true := by
   unfold sizeB
   rw [i1 (show 0 < 3 by decide), i2 (show 1 < 3 by decide), i3 (show 2 < 3 by decide)]
   rfl
  have q1 := q1 z
  have hx4 : H' x = some (.ins C dx []) := ch4.get hx (by simp)
  clear i1 i2 i3 z q2
  walk_at "rd"
  exact q1 _ (ch4.wk.trans (Ch.put.trans (Ch.put.trans Ch.put))) (by rw [zaal]; rfl)
theorem gl21 : AG (defScope (top 21)) ["all", "len", "is_listed", "is_below"] := ⟨by decide +kernel⟩
theorem av21 : AF (defScope (top 21)) ["floor", "thing", "low_row", "low_column"] := ⟨by decide +kernel⟩
def zafp : Scope := { kind := PySem.ScopeKind.function, names := [ (PySem.Str.ofString ".0", PySem.NameKind.local), (PySem.Str.ofString "number", PySem.NameKind.local), (PySem.Str.ofString "is_whole", PySem.NameKind.globalImplicit)], isGenerator := false, isCoroutine := false, more := [] : PySem.Scope }
theorem zake : CompOk zafp (defScope (top 21)) (["number"] : List Str) (["floor", "thing", "low_row", "low_column"] : List Str) [] (["number"] : List Str) := compOk rfl (by decide +kernel) (by decide +kernel) (by decide +kernel) (by decide +kernel) rfl (by decide +kernel)
theorem zakf : AK (relab zafp (defScope (top 21))) ["number"] := ⟨by decide +kernel⟩
theorem zape : AG (relab zafp (defScope (top 21))) ["is_whole"] := ⟨by decide +kernel⟩
theorem zapf : AV (relab zafp (defScope (top 21))) ["number"] := ⟨by decide +kernel⟩
def lo (b : Bool) : Int := if b then -1 else 0
def wireB (r c t : Int) (w : Wi) : Bool := (decide (lo (!w.1) ≤ w.2.1) && decide (w.2.1 < r)) && ((decide (lo w.1 ≤ w.2.2.1) && decide (w.2.2.1 < c)) && belB w.2.2.2 t)
def spWire (C : Addr) : Sp := fun vs H Q _ => ∃ (fl dx wa : Addr) (r c t : Int) (wr : Wi), vs = [.ref fl, .ref wa] ∧ H fl = some (.ins C dx (fldsF r c t)) ∧ H wa = some (.tup ((wK wr).map kV)) ∧ ∀ H', Ch [] H H' → Q (.bl (wireB r c t wr)) H'
theorem scWire : FnScope ["floor", "thing", "low_row", "low_column"] ["floor", "thing"] (defScope (top 21)) := ⟨rfl, rfl, rfl, by decide +kernel, rfl, by decide +kernel, by decide +kernel⟩
theorem zapg {C : Addr} (F : Fun K "is_wire" "is_wire" (top 21) f fd) (cl : Cls K C) (nR : NoAttr K C "rows") (nC : NoAttr K C "columns") (nT : NoAttr K C "tracks") (Dis_whole : DefOk P w K mg base CX0 k "is_whole" ["thing"] spWhole) (Dis_listed : DefOk P w K mg base CX0 k "is_listed" ["thing"] spListed) (Dis_below : DefOk P w K mg base CX0 k "is_below" ["thing", "bound"] spBelow) (z_len : mg "len" = none) (z_all : mg "all" = none) :
  FnOk P w K mg base CX0 (k + 1) f fd ["floor", "thing"] (spWire C) := by
 have nd := scWire.nd
 refine F.ok scWire (fun vs H Q E h => by obtain ⟨fl, dx, wa, r, c, t, wr, rfl, _⟩ := h; rfl) (fun cdv A outer s H vs Q E hr h => ?_)
 obtain ⟨fl, dx, wa, r, c, t, ⟨hv, i, j, tr⟩, rfl, hf, hw, q⟩ := h
 refine ⟨_, (Pr.h (zaaf (zaa4 (zab8 (zab9 (zabj (zaa3 (zaan Dis_listed hr (gl21.g 2 rfl) pass0 (zaaa (qv av21 1 rfl) zaab zaac) zadz))) (zab9 (zaaw zadb (zaaj zaau (gl21.g 1 rfl) z_len PySem.boot_len (zaaa (qv av21 1 rfl) zaab zaac) zab0 zab1) zaad (nomark _)) (zabx (zabj (zaa3 (zaaj (zac1 rfl) (gl21.g 0 rfl) z_all zaeh (zaaa (zabb rfl zake (zafe (zagr zaqv (qv av21 1 rfl) (zaia zaad) zah9)) (fun _ _ _ _ _ => (zaao (i := 0) zake.nd rfl (Or.inl (zakf.k 0 rfl)) (Or.inr (zakf.k 0 rfl)))) (fun _ _ _ _ _ => zabh) (fun _ _ _ _ _ => (zaan Dis_whole hr (zape.g 0 rfl) pass0 (zaaa (qw zapf 0 rfl) zaab zaac) zadf))) zaab zabi) zaei zaej))))))) (zaak (zaap zabz)) zaas) (zabo (zaav (i := 2) nd rfl (av21.l 2 rfl) (zadl (zaaw zacw (zaa1 zaa9 (qv av21 1 rfl) zaad (fun _ _ => rfl)) zaa2 (nomark _)) (zab3 zab2 zaad) zaad)) (zabo (zaav (i := 3) nd rfl (av21.l 3 rfl) (zadl (zaaw zacw (zaa1 zaa9 (qv av21 1 rfl) zaad (fun _ _ => rfl)) zaa2 (nomark _)) (zab3 zab2 zaad) zaad)) (zaaf (zaa4 (zab8 (zab9 (zabj (zaed zag6 zag5 (qv av21 2 rfl) (zaa1 zaa9 (qv av21 1 rfl) zaad (fun _ _ => rfl)) (zabq (qv av21 0 rfl) rfl))) (zabx (zabj (zaed zag6 zag5 (qv av21 3 rfl) (zaa1 zaa9 (qv av21 1 rfl) zaad (fun _ _ => rfl)) (zabq (qv av21 0 rfl) rfl)))))) (zaak (zaap zabz)) zaas) (zaak (zaap (zabv (zabu zagk (zaa1 zaa9 (qv av21 1 rfl) zaad (fun _ _ => rfl)) (zaam (zaaa zaa2 (zaaa zaa2 zaab zaae) zaae)) rfl) (zab6 (zaan Dis_below hr (gl21.g 3 rfl) pass0 (zaaa (zaa1 zaa9 (qv av21 1 rfl) zaad (fun _ _ => rfl)) (zaaa (zabq (qv av21 0 rfl) rfl) zaab zaa0) zaat) zab7)))))))))), ?_⟩
 (try dsimp only [cxOf])
 have fr := zacm r c t
 have fc := zab4 r c t
 have ft := zaci r c t
 have hw : H wa = some (.tup [.str (wd hv), .int i, .int j, .int tr]) := hw
 refine ⟨_, rfl, wa, _, rfl, hw, fun H1 c1 => ?_⟩
 have hw1 : H1 wa = some (.tup [.str (wd hv), .int i, .int j, .int tr]) := c1.get hw (by simp)
 have hf1 : H1 fl = some (.ins C dx (fldsF r c t)) := c1.get hf (by simp)
 clear hw hf
 walk_at "rd"
 rename_i p hp
 rw [show cutV [V.str (wd hv), V.int i, V.int j, V.int tr] (some 1) none = [.int i, .int j, .int tr] from rfl]
 obtain ⟨H2, e2⟩ : ∃ H2, upd H1 p (.tup [.int i, .int j, .int tr]) = H2 := ⟨_, rfl⟩
 have c2 : Ch [] H1 H2 := by rw [← e2]; exact Ch.new hp _
 have g2 : H2 p = some (.tup [.int i, .int j, .int tr]) := by rw [← e2]; exact zaal
 have hw2 := c2.get hw1 (by simp)
 have hf2 := c2.get hf1 (by simp)
 have c02 := c1.trans c2
 rw [e2]
 clear e2 hp hw1 hf1 c1 c2
 refine zamr [.int i, .int j, .int tr] (fun n ys σ H' => H' = H2 ∧ ys = List.replicate n (.bl true) ∧ ∃ u, σ = [u]) (by rw [sizeLine_eq]; show 3 < 16777216; decide) ⟨rfl, rfl, _, rfl⟩ ?_ ?_ ?_
 ·rintro n ys σ H' hi ⟨rfl, rfl, _⟩
  exact ⟨by simp, SqT.of g2⟩
 ·rintro n ys σ H' z hz ⟨rfl, rfl, u, rfl⟩
  obtain ⟨m, rfl⟩ : ∃ m : Int, z = .int m := by
   have := List.mem_of_getElem? hz
   simp at this
   rcases this with rfl | rfl | rfl <;> exact ⟨_, rfl⟩
  walk_at "rd"
  exact ⟨by rw [← List.replicate_succ'], _, rfl⟩
 ·rintro ys σ H' ⟨rfl, rfl, _⟩
  intro D hD
  have c3 := c02.trans (Ch.new hD (.lst (List.replicate 3 (.bl true))))
  have hw3 : (upd H' D (.lst (List.replicate 3 (.bl true)))) wa = some (.tup [.str (wd hv), .int i, .int j, .int tr]) := zabe hD hw2
  have hf3 : (upd H' D (.lst (List.replicate 3 (.bl true)))) fl = some (.ins C dx (fldsF r c t)) := zabe hD hf2
  refine ⟨D, List.replicate 3 true, rfl, by rw [zaal]; rfl, ?_⟩
  rw [show (List.replicate 3 true).all id = true from rfl]
  show _
  generalize upd H' D (.lst (List.replicate [V.int i, V.int j, V.int tr].length (.bl true))) = H3 at c3 hw3 hf3 ⊢
  clear hD hw2 hf2 g2 c02
  walk_at "rd"
  refine zach (fun σ H' => H' = H3 ∧ σ = [some (.ref fl), some (.ref wa), some (.int (lo (!hv))), none]) ?_ ?_
  ·cases hv with
   | true => have hw3 : H3 wa = some (.tup [.str "h", .int i, .int j, .int tr]) := hw3; walk_at "rd"
   | false => have hw3 : H3 wa = some (.tup [.str "v", .int i, .int j, .int tr]) := hw3; walk_at "rd"
  rintro σ H' ⟨rfl, rfl⟩
  refine zach (fun σ H'' => H'' = H' ∧ σ = [some (.ref fl), some (.ref wa), some (.int (lo (!hv))), some (.int (lo hv))]) ?_ ?_
  ·cases hv with
   | true => have hw3 : H' wa = some (.tup [.str "h", .int i, .int j, .int tr]) := hw3; walk_at "rd"
   | false => have hw3 : H' wa = some (.tup [.str "v", .int i, .int j, .int tr]) := hw3; walk_at "rd"
  rintro σ H'' ⟨rfl, rfl⟩
  replace q : ∀ H', Ch [] H H' → Q (.bl ((decide (lo (!hv) ≤ i) && decide (i < r)) && ((decide (lo hv ≤ j) && decide (j < c)) && belB tr t))) H' := q
  walk_at "rd"
  cases h1 : decide (lo (!hv) ≤ i) with
  | false =>
   rw [h1] at q
   walk_at "rd"
   exact q _ c3
  | true =>
   rw [h1] at q
   walk_at "rd"
   cases h2 : decide (i < r) with
   | false =>
    rw [h2] at q
    walk_at "rd"
    exact q _ c3
   | true =>
    rw [h2] at q
    walk_at "rd"
    cases h3 : decide (lo hv ≤ j) with
    | false =>
     rw [h3] at q
     walk_at "rd"
     exact q _ c3
    | true =>
     rw [h3] at q
     walk_at "rd"
     cases h4 : decide (j < c) with
     | false =>
      rw [h4] at q
      walk_at "rd"
      exact q _ c3
     | true =>
      rw [h4] at q
      clear h1 h2 h3 h4
      cases hv with
      | true => have hw3 : H'' wa = some (.tup [.str "h", .int i, .int j, .int tr]) := hw3; walk_at "rd"; exact q _ (c3.trans (Ch.new (by assumption) _))
      | false => have hw3 : H'' wa = some (.tup [.str "v", .int i, .int j, .int tr]) := hw3; walk_at "rd"; exact q _ (c3.trans (Ch.new (by assumption) _))
end
end

section
structure LW (H : Hp) (ks : List Wr) (ys : List V) : Prop where
 ex : ∃ ps : List Addr, ys = ps.map V.ref ∧ WsAt H ks ps
theorem LW.len {H : Hp} {ks : List Wr} {ys : List V} (s : LW H ks ys) : ys.length = ks.length := by
 obtain ⟨ps, rfl, a⟩ := s.ex
 rw [List.length_map, Paired.length a]
theorem LW.ch {H H' : Hp} {ks : List Wr} {ys : List V} (s : LW H ks ys) (c : Ch [] H H') : LW H' ks ys := let ⟨ps, e, a⟩ := s.ex; ⟨ps, e, a.ch c⟩
theorem LW.put {H : Hp} {ks : List Wr} {ys xs zs : List V} {q : Addr} (s : LW H ks ys) (hq : H q = some (.lst xs)) : LW (upd H q (.lst zs)) ks ys := by
 obtain ⟨ps, e, a⟩ := s.ex
 exact ⟨ps, e, zaca (fun p us h => by rw [zaa5 (zal2 h hq (by intro z; cases z))]; exact h) a⟩
theorem LW.app {H : Hp} {ks ks' : List Wr} {ys zs : List V} (s : LW H ks ys) (t : LW H ks' zs) : LW H (ks ++ ks') (ys ++ zs) := by
 obtain ⟨ps, rfl, a⟩ := s.ex
 obtain ⟨ps', rfl, a'⟩ := t.ex
 exact ⟨ps ++ ps', by simp, zanw a a'⟩
theorem LW.nil {H : Hp} : LW H [] [] := ⟨[], rfl, .nil⟩
theorem LW.one {H : Hp} {p : Addr} {k : Wr} (h : H p = some (.tup (k.map kV))) : LW H [k] [.ref p] := ⟨[p], rfl, .cons h .nil⟩
theorem LW.snoc {H : Hp} {ks : List Wr} {ys : List V} {p : Addr} {k : Wr} (s : LW H ks ys) (h : H p = none) : LW (upd H p (.tup (k.map kV))) (ks ++ [k]) (ys ++ [.ref p]) := (s.ch (Ch.new h _)).app (.one zaal)
def rng (lo : Int) (n : Nat) (f : Int → Wr) : List Wr := (List.range n).map fun m : Nat => f (lo + (m : Int))
theorem zabp (lo : Int) (n : Nat) (f : Int → Wr) : rng lo (n + 1) f = rng lo n f ++ [f (lo + (n : Int))] := by simp [rng, List.range_succ]
theorem zabc (lo : Int) (n : Nat) (f : Int → Wr) : (rng lo n f).length = n := by simp [rng]
def fl (lo : Int) (n : Nat) (g : Int → List Wr) : List Wr := ((List.range n).map fun m : Nat => g (lo + (m : Int))).flatten
theorem zac3 (lo : Int) (n : Nat) (g : Int → List Wr) : fl lo (n + 1) g = fl lo n g ++ g (lo + (n : Int)) := by simp [fl, List.range_succ]
theorem zafq {lo : Int} {g : Int → List Wr} {b : Nat} (h : ∀ x, (g x).length ≤ b) : ∀ n, (fl lo n g).length ≤ n * b
 | 0 => by simp [fl]
 | n + 1 => by
  rw [zac3, List.length_append, Nat.add_mul, Nat.one_mul]
  have := zafq (lo := lo) h n
  have := h (lo + (n : Int))
  omega
def padsK (r c : Nat) : List Wr := rng 0 r (fun i => [.inl i, .inl (-1)]) ++ rng 0 c (fun j => [.inl (-1), .inl j]) ++ rng 0 r (fun i => [.inl i, .inl (c : Int)]) ++ rng 0 c (fun j => [.inl (r : Int), .inl j])
theorem zacn (r c : Nat) : (padsK r c).length = 2 * (r + c) := by simp [padsK, zabc]; omega
def trk (hv : Bool) (t : Nat) (i j : Int) : List Wr := rng 0 t fun k => wK (hv, i, j, k)
def colsK (hv : Bool) (c t : Nat) (i : Int) : List Wr := fl (lo hv) (c + (if hv then 1 else 0)) fun j => trk hv t i j
def halfK (hv : Bool) (r c t : Nat) : List Wr := fl (lo !hv) (r + (if hv then 0 else 1)) fun i => colsK hv c t i
def wiresK (r c t : Nat) : List Wr := halfK true r c t ++ halfK false r c t
theorem zaek (hv : Bool) (t : Nat) (i j : Int) : (trk hv t i j).length = t := zabc _ _ _
def endsW (w : Wi) : List (Int × Int) := [(w.2.1, w.2.2.1), if w.1 then (w.2.1, w.2.2.1 + 1) else (w.2.1 + 1, w.2.2.1)]
def bxK (b : Int × Int) : Wr := [.inl b.1, .inl b.2]
def inB (r c : Int) (b : Int × Int) : Bool := belB b.1 r && belB b.2 c
def boxesW (r c : Int) (w : Wi) : List (Int × Int) := (endsW w).filter (inB r c)
section
variable {P : Program} {w : World} {K : PySem.W.Frag} {mg : Str → Option Value} {base : Heap} {f : Addr} {fd : FuncData} {k : Nat}
theorem zai1 : Nd "is_wire" := by decide +kernel
theorem glx26 : AG (defScope (top 26)) ["is_wire", "OutOfFloor"] := ⟨by decide +kernel⟩
theorem av26 : AF (defScope (top 26)) ["floor", "wire", "row", "column", "ends"] := ⟨by decide +kernel⟩
def zafr : Scope := { kind := PySem.ScopeKind.function, names := [ (PySem.Str.ofString ".0", PySem.NameKind.local), (PySem.Str.ofString "box", PySem.NameKind.local), (PySem.Str.ofString "is_box", PySem.NameKind.globalImplicit), (PySem.Str.ofString "floor", PySem.NameKind.free)], isGenerator := false, isCoroutine := false, more := [] : PySem.Scope }
theorem zakg : CompOk zafr (defScope (top 26)) (["box"] : List Str) (["floor", "wire", "row", "column", "ends"] : List Str) [0] (["box", "floor"] : List Str) := compOk rfl (by decide +kernel) (by decide +kernel) (by decide +kernel) (by decide +kernel) rfl (by decide +kernel)
theorem zakh : AK (relab zafr (defScope (top 26))) ["box"] := ⟨by decide +kernel⟩
theorem zam4 : AG (relab zafr (defScope (top 26))) ["is_box"] := ⟨by decide +kernel⟩
theorem zahe : AV (relab zafr (defScope (top 26))) ["box", "floor"] := ⟨by decide +kernel⟩
theorem zae2 {C p p1 p2 fl dx : Addr} {i j a b r c t : Int} {H2 : Hp} {Q' : List V → Hp → Prop} {u : Option V} (g3 : H2 p = some (.lst [.ref p1, .ref p2])) (g1 : H2 p1 = some (.tup [.int i, .int j])) (g2 : H2 p2 = some (.tup [.int a, .int b])) (hf : H2 fl = some (.ins C dx (fldsF r c t)))
  (hq : ∀ ys H', Ch [] H2 H' → LW H' (([(i, j), (a, b)].filter (inB r c)).map bxK) ys → Q' ys H') : Comp (Itl K p) (gName 0) (tB (tCall (spBox C) [] E0 (tCons (tVar 1) (tCons (tVar 0) tNil)))) (tVar 0) Q' [u, some (.ref fl)] H2 := by
 refine zaeg [.ref p1, .ref p2] (fun n ys σ H' => Ch [] H2 H' ∧ LW H' ((([(i, j), (a, b)].take n).filter (inB r c)).map bxK) ys ∧ ∃ u, σ = [u, some (.ref fl)]) (by rw [sizeLine_eq]; show 2 < 16777216; decide) ⟨Ch.refl _ _, .nil, _, rfl⟩ ?_ ?_ ?_
 ·rintro n ys σ H' hi ⟨c1, lw, _⟩
  refine ⟨?_, SqL.of (c1.get g3 (by simp))⟩
  rw [lw.len, List.length_map]
  exact Nat.le_trans (List.length_filter_le _ _) (by rw [List.length_take]; omega)
 ·rintro n ys σ H' z hz ⟨c1, lw, u, rfl⟩
  have hf1 : H' fl = some (.ins C dx (fldsF r c t)) := c1.get hf (by simp)
  obtain ⟨pz, b, rfl, hp, hb⟩ : ∃ (pz : Addr) (b' : Int × Int), z = .ref pz ∧ H' pz = some (.tup [.int b'.1, .int b'.2]) ∧ [(i, j), (a, b)][n]? = some b' := by
   match n, hz with
   | 0, hz => cases hz; exact ⟨p1, (i, j), rfl, c1.get g1 (by simp), rfl⟩
   | 1, hz => cases hz; exact ⟨p2, (a, b), rfl, c1.get g2 (by simp), rfl⟩
   | n + 2, hz => cases hz
  rw [List.take_add_one, hb, List.filter_append, List.map_append]
  walk_at "rd"
  rename_i H3 c3
  cases hB : inB r c b with
  | true =>
   have hB' : (belB b.1 r && belB b.2 c) = true := hB
   rw [hB']
   have hp3 := c3.get hp (by simp)
   have c13 := c1.trans c3
   have lw3 := lw.ch c3
   refine ite2 (fun _ => ?_) (fun h => absurd rfl h)
   walk_at "rd"
   refine ⟨?_, _, rfl⟩
   rw [show ((some b).toList.filter (inB r c)) = [b] from by simp [hB]]
   exact lw3.app (.one hp3)
  | false =>
   have hB' : (belB b.1 r && belB b.2 c) = false := hB
   rw [hB']
   refine ite2 (fun h => absurd h (by decide)) (fun _ => ?_)
   refine ⟨c1.trans c3, ?_, _, rfl⟩
   rw [show ((some b).toList.filter (inB r c)) = [] from by simp [hB]]
   rw [List.map_nil, List.append_nil]
   exact lw.ch c3
 ·rintro ys σ H' ⟨c1, lw, _⟩
  exact hq ys H' c1 lw
def spBoxesX (C CO : Addr) : Sp := fun vs H Q E => ∃ (fl dx wa : Addr) (r c t : Int) (wr : Wi), vs = [.ref fl, .ref wa] ∧ H fl = some (.ins C dx (fldsF r c t)) ∧ H wa = some (.tup ((wK wr).map kV)) ∧
 (wireB r c t wr = true → ∀ l ys H', Ch [] H H' → H l = none → H' l = some (.lst ys) → LW H' ((boxesW r c wr).map bxK) ys → Q (.ref l) H') ∧ (wireB r c t wr = false → ∀ H', Ch [] H H' → E (.ref CO) none H')
theorem scBoxes : FnScope ["floor", "wire", "row", "column", "ends"] ["floor", "wire"] (defScope (top 26)) := ⟨rfl, rfl, rfl, by decide +kernel, rfl, by decide +kernel, by decide +kernel⟩
theorem zaki {C CO : Addr} (F : Fun K "boxes_at" "boxes_at" (top 26) f fd) (cl : Cls K C) (Dis_wire : DefOk P w K mg base CX0 k "is_wire" ["floor", "thing"] (spWire C)) (Dis_box : DefOk P w K mg base CX0 k "is_box" ["floor", "thing"] (spBox C))
  (m_OutOfFloor : mg "OutOfFloor" = some (.ref CO)) (X_OutOfFloor : XC K CO) : FnOk P w K mg base (CXE P w) (k + 1) f fd ["floor", "wire"] (spBoxesX C CO) := by
 have nd := scBoxes.nd
 refine F.okE scBoxes (fun vs H Q E h => by obtain ⟨fl, dx, wa, r, c, t, wr, rfl, _⟩ := h; rfl) (fun cdv A outer s H vs Q E hr h => ?_)
 obtain ⟨fl, dx, wa, r, c, t, ⟨hv, i, j, tr⟩, rfl, hf, hw, q1, q2⟩ := h
 refine ⟨_, (Pr.h (zaaf (zaa4 (zabj (zaa3 (zaan Dis_wire hr (glx26.g 0 rfl) pass0 (zaaa (qv av26 0 rfl) (zaaa (qv av26 1 rfl) zaab zaac) zaac) zai1))) (zaak (zac9 (glx26.g 1 rfl) m_OutOfFloor X_OutOfFloor (zaaa zaa2 zaab zaae) zacl)) zaas) (zaaf (zaav (i := 2) nd rfl (av26.l 2 rfl) (zaa1 zaa9 (qv av26 1 rfl) zaad (fun _ _ => rfl))) (zaaf (zaav (i := 3) nd rfl (av26.l 3 rfl) (zaa1 zaa9 (qv av26 1 rfl) zaad (fun _ _ => rfl))) (zaaf (zaav (i := 4) nd rfl (av26.l 4 rfl) (zabm (zaaa (zaam (zaaa (qv av26 2 rfl) (zaaa (qv av26 3 rfl) zaab zaac) zaac)) (zaaa (zadl (zaaw zacw (zaa1 zaa9 (qv av26 1 rfl) zaad (fun _ _ => rfl)) zaa2 (nomark _)) (zaam (zaaa (qv av26 2 rfl) (zaaa (zaaq zabw (qv av26 3 rfl) zaad) zaab zaa7) zaac)) (zaam (zaaa (zaaq zabw (qv av26 2 rfl) zaad) (zaaa (qv av26 3 rfl) zaab zaac) zaa7))) zaab zamn) zaar))) (zaak (zaap (zabb rfl zakg (zacz (qv av26 4 rfl)) (fun _ _ _ _ _ => (zaao (i := 0) zakg.nd rfl (Or.inl (zakh.k 0 rfl)) (Or.inr (zakh.k 0 rfl)))) (fun _ _ _ _ _ => (zafh (zaa3 (zaan Dis_box hr (zam4.g 0 rfl) pass0 (zaaa (qw zahe 1 rfl) (zaaa (qw zahe 0 rfl) zaab zaac) zaac) zagy)))) (fun _ _ _ _ _ => (qw zahe 0 rfl)))))))))), ?_⟩
 (try dsimp only [cxOf])
 walk_at "rd"
 rename_i H1 c1
 have hw : H wa = some (.tup [.str (wd hv), .int i, .int j, .int tr]) := hw
 have hw1 : H1 wa = some (.tup [.str (wd hv), .int i, .int j, .int tr]) := c1.get hw (by simp)
 have hf1 : H1 fl = some (.ins C dx (fldsF r c t)) := c1.get hf (by simp)
 clear hw hf
 cases hB : wireB r c t (hv, i, j, tr) with
 | false =>
  walk_at "rd"
  exact q2 hB _ c1
 | true =>
  have q1 := q1 hB
  clear q2 hB
  cases hv with
  | true =>
   have hw1 : H1 wa = some (.tup [.str "h", .int i, .int j, .int tr]) := hw1
   walk_at "rd"
   rename_i p1 h1 p2 h2 p h3
   refine zae2 (p1 := p1) (p2 := p2) (i := i) (j := j) (a := i) (b := j + 1) (dx := dx) (r := r) (c := c) (t := t) zaal (zabe h3 (zabe h2 zaal)) (zabe h3 zaal) (zabe h3 (zabe h2 (zabe h1 hf1))) fun ys H3 c3 lw D hD => ?_
   have cc := (c1.trans (((Ch.new h1 _).trans (Ch.new h2 _)).trans (Ch.new h3 _))).trans c3
   exact q1 D ys _ (cc.trans (Ch.new hD _)) (chFree cc hD) zaal (lw.ch (Ch.new hD _))
  | false =>
   have hw1 : H1 wa = some (.tup [.str "v", .int i, .int j, .int tr]) := hw1
   walk_at "rd"
   rename_i p1 h1 p2 h2 p h3
   refine zae2 (p1 := p1) (p2 := p2) (i := i) (j := j) (a := i + 1) (b := j) (dx := dx) (r := r) (c := c) (t := t) zaal (zabe h3 (zabe h2 zaal)) (zabe h3 zaal) (zabe h3 (zabe h2 (zabe h1 hf1))) fun ys H3 c3 lw D hD => ?_
   have cc := (c1.trans (((Ch.new h1 _).trans (Ch.new h2 _)).trans (Ch.new h3 _))).trans c3
   exact q1 D ys _ (cc.trans (Ch.new hD _)) (chFree cc hD) zaal (lw.ch (Ch.new hD _))
end
end

section
theorem zaii {H0 H H2 : Hp} {D E : Addr} {ys zs : List V} {ks ks' : List Wr} (c : Ch [] H0 H) (n : H0 D = none) (g : H D = some (.lst ys)) (lw : LW H ks ys) (c2 : Ch [] H H2) (hE : H2 E = none) (lz : LW H2 ks' zs) :
  Ch [] H0 (upd (upd H2 E (.lst zs)) D (.lst (ys ++ zs))) ∧ upd (upd H2 E (.lst zs)) D (.lst (ys ++ zs)) D = some (.lst (ys ++ zs)) ∧ LW (upd (upd H2 E (.lst zs)) D (.lst (ys ++ zs))) (ks ++ ks') (ys ++ zs) := by
 have c3 : Ch [] H (upd H2 E (.lst zs)) := c2.trans (Ch.new hE _)
 have g3 : upd H2 E (.lst zs) D = some (.lst ys) := c3.get g (by simp)
 exact ⟨Ch.own n (c.trans c3), zaal, ((lw.ch c3).put g3).app ((lz.ch (Ch.new hE _)).put g3)⟩
section
variable {P : Program} {w : World} {K : PySem.W.Frag} {mg : Str → Option Value} {base : Heap} {f : Addr} {fd : FuncData} {k : Nat}
theorem av23 : AF (defScope (top 23)) ["floor", "spots"] := ⟨by decide +kernel⟩
theorem gl23 : AG (defScope (top 23)) ["range"] := ⟨by decide +kernel⟩
def zahf : Scope := { kind := PySem.ScopeKind.function, names := [(PySem.Str.ofString ".0", PySem.NameKind.local), (PySem.Str.ofString "row", PySem.NameKind.local)], isGenerator := false, isCoroutine := false, more := [] : PySem.Scope }
theorem zakj : CompOk zahf (defScope (top 23)) (["row"] : List Str) (["floor", "spots"] : List Str) [] (["row"] : List Str) := compOk rfl (by decide +kernel) (by decide +kernel) (by decide +kernel) (by decide +kernel) rfl (by decide +kernel)
theorem zakk : AK (relab zahf (defScope (top 23))) ["row"] := ⟨by decide +kernel⟩
theorem zaph : AV (relab zahf (defScope (top 23))) ["row"] := ⟨by decide +kernel⟩
def zahg : Scope := { kind := PySem.ScopeKind.function, names := [(PySem.Str.ofString ".0", PySem.NameKind.local), (PySem.Str.ofString "column", PySem.NameKind.local)], isGenerator := false, isCoroutine := false, more := [] : PySem.Scope }
theorem zakl : CompOk zahg (defScope (top 23)) (["column"] : List Str) (["floor", "spots"] : List Str) [] (["column"] : List Str) := compOk rfl (by decide +kernel) (by decide +kernel) (by decide +kernel) (by decide +kernel) rfl (by decide +kernel)
theorem zakm : AK (relab zahg (defScope (top 23))) ["column"] := ⟨by decide +kernel⟩
theorem zapi : AV (relab zahg (defScope (top 23))) ["column"] := ⟨by decide +kernel⟩
def zahh : Scope := { kind := PySem.ScopeKind.function, names := [ (PySem.Str.ofString ".0", PySem.NameKind.local), (PySem.Str.ofString "row", PySem.NameKind.local), (PySem.Str.ofString "floor", PySem.NameKind.free)], isGenerator := false, isCoroutine := false, more := [] : PySem.Scope }
theorem zakn : CompOk zahh (defScope (top 23)) (["row"] : List Str) (["floor", "spots"] : List Str) [0] (["row", "floor"] : List Str) := compOk rfl (by decide +kernel) (by decide +kernel) (by decide +kernel) (by decide +kernel) rfl (by decide +kernel)
theorem zako : AK (relab zahh (defScope (top 23))) ["row"] := ⟨by decide +kernel⟩
theorem zakp : AV (relab zahh (defScope (top 23))) ["row", "floor"] := ⟨by decide +kernel⟩
def zahi : Scope := { kind := PySem.ScopeKind.function, names := [ (PySem.Str.ofString ".0", PySem.NameKind.local), (PySem.Str.ofString "column", PySem.NameKind.local), (PySem.Str.ofString "floor", PySem.NameKind.free)], isGenerator := false, isCoroutine := false, more := [] : PySem.Scope }
theorem zakq : CompOk zahi (defScope (top 23)) (["column"] : List Str) (["floor", "spots"] : List Str) [0] (["column", "floor"] : List Str) := compOk rfl (by decide +kernel) (by decide +kernel) (by decide +kernel) (by decide +kernel) rfl (by decide +kernel)
theorem zakr : AK (relab zahi (defScope (top 23))) ["column"] := ⟨by decide +kernel⟩
theorem zaks : AV (relab zahi (defScope (top 23))) ["column", "floor"] := ⟨by decide +kernel⟩
def spPads (C : Addr) : Sp := fun vs H Q _ => ∃ (fa dx : Addr) (r c : Nat) (t : Int), vs = [.ref fa] ∧ H fa = some (.ins C dx (fldsF r c t)) ∧ r ≤ 10 ∧ c ≤ 10 ∧ ∀ l ys H', Ch [] H H' → H l = none → H' l = some (.lst ys) → LW H' (padsK r c) ys → Q (.ref l) H'
theorem scPads : FnScope ["floor", "spots"] ["floor"] (defScope (top 23)) := ⟨rfl, rfl, rfl, by decide +kernel, rfl, by decide +kernel, by decide +kernel⟩
theorem zapj {C : Addr} (F : Fun K "pads_of" "pads_of" (top 23) f fd) (cl : Cls K C) (nR : NoAttr K C "rows") (nC : NoAttr K C "columns") (z_range : mg "range" = none) : FnOk P w K mg base CX0 (k + 1) f fd ["floor"] (spPads C) := by
 have nd := scPads.nd
 refine F.ok scPads (fun vs H Q E h => by obtain ⟨fa, dx, r, c, t, rfl, _⟩ := h; rfl) (fun cdv A outer s H vs Q E hr h => ?_)
 obtain ⟨fa, dx, r, c, t, rfl, hf, r1, c1, q⟩ := h
 refine ⟨_, (Pr.h (zaaf (zams (i := 1) nd rfl (av23.l 1 rfl) rfl zakj (zaaz (gl23.g 0 rfl) z_range (zaaa (zabq (qv av23 0 rfl) rfl) zaab zaa0)) (fun _ _ _ _ _ => (zaao (i := 0) zakj.nd rfl (Or.inl (zakk.k 0 rfl)) (Or.inr (zakk.k 0 rfl)))) (fun _ _ _ _ _ => zabh) (fun _ _ _ _ _ => (zaam (zaaa (qw zaph 0 rfl) (zaaa (zab3 zab2 zaad) zaab zaa6) zaac))) rfl) (zaaf (zacp (zaex PySem.F.plainAttrs_list PySem.F.slot_list_extend PySem.F.type_list_extend zadk (qv av23 1 rfl) (zaaa (zabb rfl zakl (zaaz (gl23.g 0 rfl) z_range (zaaa (zabq (qv av23 0 rfl) rfl) zaab zaa0)) (fun _ _ _ _ _ => (zaao (i := 0) zakl.nd rfl (Or.inl (zakm.k 0 rfl)) (Or.inr (zakm.k 0 rfl)))) (fun _ _ _ _ _ => zabh) (fun _ _ _ _ _ => (zaam (zaaa (zab3 zab2 zaad) (zaaa (qw zapi 0 rfl) zaab zaac) zaa6)))) zaab zabi))) (zaaf (zacp (zaex PySem.F.plainAttrs_list PySem.F.slot_list_extend PySem.F.type_list_extend zadk (qv av23 1 rfl) (zaaa (zabb rfl zakn (zaaz (gl23.g 0 rfl) z_range (zaaa (zabq (qv av23 0 rfl) rfl) zaab zaa0)) (fun _ _ _ _ _ => (zaao (i := 0) zakn.nd rfl (Or.inl (zako.k 0 rfl)) (Or.inr (zako.k 0 rfl)))) (fun _ _ _ _ _ => zabh) (fun _ _ _ _ _ => (zaam (zaaa (qw zakp 0 rfl) (zaaa (zaid K rfl (qw zakp 1 rfl) rfl) zaab zaa0) zaac)))) zaab zabi))) (zaaf (zacp (zaex PySem.F.plainAttrs_list PySem.F.slot_list_extend PySem.F.type_list_extend zadk (qv av23 1 rfl) (zaaa (zabb rfl zakq (zaaz (gl23.g 0 rfl) z_range (zaaa (zabq (qv av23 0 rfl) rfl) zaab zaa0)) (fun _ _ _ _ _ => (zaao (i := 0) zakq.nd rfl (Or.inl (zakr.k 0 rfl)) (Or.inr (zakr.k 0 rfl)))) (fun _ _ _ _ _ => zabh) (fun _ _ _ _ _ => (zaam (zaaa (zaid K rfl (qw zaks 1 rfl) rfl) (zaaa (qw zaks 0 rfl) zaab zaac) zaa0)))) zaab zabi))) (zaak (zaap (qv av23 1 rfl)))))))), ?_⟩
 (try dsimp only [cxOf])
 have fr := zacm r c t
 have fc := zab4 r c t
 walk_at "rd"
 refine zabg (fun m zs σ H' => Ch [] H H' ∧ LW H' (rng 0 m (fun i => [.inl i, .inl (-1)])) zs ∧ ∃ u, σ = [u]) (by rw [sizeLine_eq]; omega) ⟨Ch.refl _ _, .nil, _, rfl⟩ ?_ ?_ ?_
 ·rintro m zs σ H' hm ⟨_, lw, _⟩
  rw [lw.len, zabc]; exact Nat.le_refl _
 ·rintro m zs σ H' hm ⟨c2, lw, u, rfl⟩
  walk_at "rd"
  rename_i p hp
  refine ⟨?_, _, rfl⟩
  rw [zabp]
  exact lw.snoc (k := [.inl (0 + (m : Int)), .inl (-1)]) hp
 rintro zs σ H1 ⟨c2, lw, _⟩
 intro D hD
 rw [Int.toNat_natCast] at lw
 have l2 := lw.len
 rw [zabc] at l2
 have fD := chFree c2 hD
 have lw2 := lw.ch (Ch.new hD (.lst zs))
 have c2 := c2.trans (Ch.new hD (.lst zs))
 have g2 : upd H1 D (.lst zs) D = some (.lst zs) := zaal
 obtain ⟨H2, e2⟩ : ∃ H', upd H1 D (.lst zs) = H' := ⟨_, rfl⟩
 rw [e2] at lw2 c2 g2 ⊢
 clear e2 hD lw
 have hf2 : H2 fa = some (.ins C dx (fldsF r c t)) := c2.get hf (by simp)
 walk_at "rd"
 refine zabg (fun m zs σ H' => Ch [] H2 H' ∧ LW H' (rng 0 m (fun i => [.inl (-1), .inl i])) zs ∧ ∃ u, σ = [u]) (by rw [sizeLine_eq]; omega) ⟨Ch.refl _ _, .nil, _, rfl⟩ ?_ ?_ ?_
 ·rintro m zs σ H' hm ⟨_, lw, _⟩
  rw [lw.len, zabc]; exact Nat.le_refl _
 ·rintro m zs σ H' hm ⟨c2, lw, u, rfl⟩
  have hf' : H' fa = some (.ins C dx (fldsF r c t)) := c2.get hf2 (by simp)
  walk_at "rd"
  rename_i p hp
  refine ⟨?_, _, rfl⟩
  rw [zabp]
  exact lw.snoc (k := [.inl (-1), .inl (0 + (m : Int))]) hp
 rintro zs3 σ H3' ⟨d3, lz3, _⟩
 intro E3 hE3
 rw [Int.toNat_natCast] at lz3
 have l3 := lz3.len
 rw [zabc] at l3
 obtain ⟨c3, g3, lw3⟩ := zaii c2 fD g2 lw2 d3 hE3 lz3
 have gE3 : upd H3' E3 (.lst zs3) E3 = some (.lst zs3) := zaal
 have gD3 : upd H3' E3 (.lst zs3) D = some (.lst zs) := zabe hE3 (d3.get g2 (by simp))
 have lt3 : (zs).length + zs3.length ≤ sizeLine := by rw [sizeLine_eq]; (try simp only [List.length_append]); omega
 walk_at "rd"
 obtain ⟨H3, e3⟩ : ∃ H', upd (upd H3' E3 (.lst zs3)) D (.lst (zs ++ zs3)) = H' := ⟨_, rfl⟩
 rw [e3] at c3 g3 lw3 ⊢
 clear e3 gE3 gD3 lt3 d3 lz3 hE3 c2 g2 lw2
 have hf3 : H3 fa = some (.ins C dx (fldsF r c t)) := c3.get hf (by simp)
 walk_at "rd"
 refine zabg (fun m zs σ H' => Ch [] H3 H' ∧ LW H' (rng 0 m (fun i => [.inl i, .inl (c : Int)])) zs ∧ ∃ u, σ = [u, some (.ref fa)]) (by rw [sizeLine_eq]; omega) ⟨Ch.refl _ _, .nil, _, rfl⟩ ?_ ?_ ?_
 ·rintro m zs σ H' hm ⟨_, lw, _⟩
  rw [lw.len, zabc]; exact Nat.le_refl _
 ·rintro m zs σ H' hm ⟨c2, lw, u, rfl⟩
  have hf' : H' fa = some (.ins C dx (fldsF r c t)) := c2.get hf3 (by simp)
  walk_at "rd"
  rename_i p hp
  refine ⟨?_, _, rfl⟩
  rw [zabp]
  exact lw.snoc (k := [.inl (0 + (m : Int)), .inl (c : Int)]) hp
 rintro zs4 σ H4' ⟨d4, lz4, _⟩
 intro E4 hE4
 rw [Int.toNat_natCast] at lz4
 have l4 := lz4.len
 rw [zabc] at l4
 obtain ⟨c4, g4, lw4⟩ := zaii c3 fD g3 lw3 d4 hE4 lz4
 have gE4 : upd H4' E4 (.lst zs4) E4 = some (.lst zs4) := zaal
 have gD4 : upd H4' E4 (.lst zs4) D = some (.lst (zs ++ zs3)) := zabe hE4 (d4.get g3 (by simp))
 have lt4 : ((zs ++ zs3)).length + zs4.length ≤ sizeLine := by rw [sizeLine_eq]; (try simp only [List.length_append]); omega
 walk_at "rd"
 obtain ⟨H4, e4⟩ : ∃ H', upd (upd H4' E4 (.lst zs4)) D (.lst ((zs ++ zs3) ++ zs4)) = H' := ⟨_, rfl⟩
 rw [e4] at c4 g4 lw4 ⊢
 clear e4 gE4 gD4 lt4 d4 lz4 hE4 c3 g3 lw3
 have hf4 : H4 fa = some (.ins C dx (fldsF r c t)) := c4.get hf (by simp)
 walk_at "rd"
 refine zabg (fun m zs σ H' => Ch [] H4 H' ∧ LW H' (rng 0 m (fun i => [.inl (r : Int), .inl i])) zs ∧ ∃ u, σ = [u, some (.ref fa)]) (by rw [sizeLine_eq]; omega) ⟨Ch.refl _ _, .nil, _, rfl⟩ ?_ ?_ ?_
 ·rintro m zs σ H' hm ⟨_, lw, _⟩
  rw [lw.len, zabc]; exact Nat.le_refl _
 ·rintro m zs σ H' hm ⟨c2, lw, u, rfl⟩
  have hf' : H' fa = some (.ins C dx (fldsF r c t)) := c2.get hf4 (by simp)
  walk_at "rd"
  rename_i p hp
  refine ⟨?_, _, rfl⟩
  rw [zabp]
  exact lw.snoc (k := [.inl (r : Int), .inl (0 + (m : Int))]) hp
 rintro zs5 σ H5' ⟨d5, lz5, _⟩
 intro E5 hE5
 rw [Int.toNat_natCast] at lz5
 have l5 := lz5.len
 rw [zabc] at l5
 obtain ⟨c5, g5, lw5⟩ := zaii c4 fD g4 lw4 d5 hE5 lz5
 have gE5 : upd H5' E5 (.lst zs5) E5 = some (.lst zs5) := zaal
 have gD5 : upd H5' E5 (.lst zs5) D = some (.lst (zs ++ zs3 ++ zs4)) := zabe hE5 (d5.get g4 (by simp))
 have lt5 : ((zs ++ zs3 ++ zs4)).length + zs5.length ≤ sizeLine := by rw [sizeLine_eq]; (try simp only [List.length_append]); omega
 walk_at "rd"
 obtain ⟨H5, e5⟩ : ∃ H', upd (upd H5' E5 (.lst zs5)) D (.lst ((zs ++ zs3 ++ zs4) ++ zs5)) = H' := ⟨_, rfl⟩
 rw [e5] at c5 g5 lw5 ⊢
 clear e5 gE5 gD5 lt5 d5 lz5 hE5 c4 g4 lw4
 exact q D _ _ c5 fD g5 lw5
end
end

section
def SpotP (r c : Nat) (a b : Int) : Prop := (0 ≤ a ∧ a < (r : Int) ∧ (b = -1 ∨ b = (c : Int))) ∨ ((a = -1 ∨ a = (r : Int)) ∧ 0 ≤ b ∧ b < (c : Int))
theorem zadg {lo : Int} {n : Nat} {f : Int → Wr} {k : Wr} (h : k ∈ rng lo n f) : ∃ m : Nat, m < n ∧ k = f (lo + (m : Int)) := by
 simp only [rng, List.mem_map, List.mem_range] at h
 obtain ⟨m, hm, e⟩ := h
 exact ⟨m, hm, e.symm⟩
theorem zael {r c : Nat} {k : Wr} (h : k ∈ padsK r c) : ∃ a b : Int, k = bxK (a, b) ∧ SpotP r c a b := by
 simp only [padsK, List.mem_append] at h
 rcases h with ((h | h) | h) | h
 ·obtain ⟨m, hm, rfl⟩ := zadg h; exact ⟨_, _, rfl, .inl ⟨by omega, by omega, .inl rfl⟩⟩
 ·obtain ⟨m, hm, rfl⟩ := zadg h; exact ⟨_, _, rfl, .inr ⟨.inl rfl, by omega, by omega⟩⟩
 ·obtain ⟨m, hm, rfl⟩ := zadg h; exact ⟨_, _, rfl, .inl ⟨by omega, by omega, .inr rfl⟩⟩
 ·obtain ⟨m, hm, rfl⟩ := zadg h; exact ⟨_, _, rfl, .inr ⟨.inr rfl, by omega, by omega⟩⟩
theorem lo_b (b : Bool) : -1 ≤ lo b ∧ lo b ≤ 0 := by cases b <;> decide
theorem zafs (hv : Bool) {c t : Nat} (hc : c ≤ 10) (ht : t ≤ 8) (i : Int) : (colsK hv c t i).length ≤ 88 := by
 have := zafq (lo := lo hv) (g := fun j => trk hv t i j) (b := 8) (fun x => by rw [zaek]; exact ht) (c + (if hv then 1 else 0))
 refine Nat.le_trans this ?_
 split <;> omega
theorem zaft (hv : Bool) {r c t : Nat} (hr : r ≤ 10) (hc : c ≤ 10) (ht : t ≤ 8) : (halfK hv r c t).length ≤ 968 := by
 have := zafq (lo := lo !hv) (g := fun i => colsK hv c t i) (b := 88) (fun x => zafs hv hc ht x) (r + (if hv then 0 else 1))
 refine Nat.le_trans this ?_
 split <;> omega
def less1 (a r : Int) : Int := if a = r then a - 1 else a
def padK (r c t : Nat) (a b : Int) : List Wr := rng 0 t fun k => wK (belB a r, less1 a r, less1 b c, k)
theorem LW.at {H : Hp} {ks : List Wr} {ys : List V} (s : LW H ks ys) {n : Nat} {kk : Wr} (h : ks[n]? = some kk) : ∃ p, ys[n]? = some (.ref p) ∧ H p = some (.tup (kk.map kV)) := by
 obtain ⟨ps, rfl, a⟩ := s.ex
 have hn := (List.getElem?_eq_some_iff.mp h).1
 have hl := Paired.length a
 have := zado a n hn (by omega)
 refine ⟨ps[n], by simp [show n < ps.length from by omega], ?_⟩
 have e : ks[n] = kk := (List.getElem?_eq_some_iff.mp h).2
 rw [← e]
 exact this
section
variable {P : Program} {w : World} {K : PySem.W.Frag} {mg : Str → Option Value} {base : Heap} {f : Addr} {fd : FuncData} {k : Nat}
theorem zae3 : Nd "pads_of" := by decide +kernel
theorem av24 : AF (defScope (top 24)) ["floor", "pad", "spots", "row", "column", "word"] := ⟨by decide +kernel⟩
theorem glx24 : AG (defScope (top 24)) ["pads_of", "is_below", "len", "OutOfFloor", "range"] := ⟨by decide +kernel⟩
def zahj : Scope := { kind := PySem.ScopeKind.function, names := [ (PySem.Str.ofString ".0", PySem.NameKind.local), (PySem.Str.ofString "track", PySem.NameKind.local), (PySem.Str.ofString "column", PySem.NameKind.free), (PySem.Str.ofString "row", PySem.NameKind.free), (PySem.Str.ofString "word", PySem.NameKind.free)], isGenerator := false, isCoroutine := false, more := [] : PySem.Scope }
theorem zakt : CompOk zahj (defScope (top 24)) (["track"] : List Str) (["floor", "pad", "spots", "row", "column", "word"] : List Str) [5, 3, 4] (["track", "word", "row", "column"] : List Str) := compOk rfl (by decide +kernel) (by decide +kernel) (by decide +kernel) (by decide +kernel) rfl (by decide +kernel)
theorem zaku : AK (relab zahj (defScope (top 24))) ["track"] := ⟨by decide +kernel⟩
theorem zafu : AV (relab zahj (defScope (top 24))) ["track", "word", "row", "column"] := ⟨by decide +kernel⟩
def spPadWX (C CO : Addr) : Sp := fun vs H Q E => ∃ (fa dx : Addr) (r c t : Nat) (pad : Int), vs = [.ref fa, .int pad] ∧ H fa = some (.ins C dx (fldsF r c t)) ∧ (r ≤ 10 ∧ c ≤ 10 ∧ t ≤ 8) ∧
 (∀ (n : Nat) (a b : Int), pad = (n : Int) → (padsK r c)[n]? = some (bxK (a, b)) → ∀ l ys H', Ch [] H H' → H l = none → H' l = some (.lst ys) → LW H' (padK r c t a b) ys → Q (.ref l) H') ∧ (belB pad (2 * ((r : Int) + c)) = false → ∀ H', Ch [] H H' → E (.ref CO) none H')
theorem scPadW : FnScope ["floor", "pad", "spots", "row", "column", "word"] ["floor", "pad"] (defScope (top 24)) := ⟨rfl, rfl, rfl, by decide +kernel, rfl, by decide +kernel, by decide +kernel⟩
theorem zam5 {C CO : Addr} (F : Fun K "pad_wires" "pad_wires" (top 24) f fd) (cl : Cls K C) (nR : NoAttr K C "rows") (nC : NoAttr K C "columns") (nT : NoAttr K C "tracks") (Dpads_of : DefOk P w K mg base CX0 k "pads_of" ["floor"] (spPads C)) (Dis_below : DefOk P w K mg base CX0 k "is_below" ["thing", "bound"] spBelow) (z_len : mg "len" = none) (z_range : mg "range" = none)
  (m_OutOfFloor : mg "OutOfFloor" = some (.ref CO)) (X_OutOfFloor : XC K CO) : FnOk P w K mg base (CXE P w) (k + 1) f fd ["floor", "pad"] (spPadWX C CO) := by
 have nd := scPadW.nd
 refine F.okE scPadW (fun vs H Q E h => by obtain ⟨fa, dx, r, c, t, pad, rfl, _⟩ := h; rfl) (fun cdv A outer s H vs Q E hr h => ?_)
 obtain ⟨fa, dx, r, c, t, pad, rfl, hf, ⟨r1, c1, t1⟩, q1, q2⟩ := h
 refine ⟨_, (Pr.h (zaaf (zaav (i := 2) nd rfl (av24.l 2 rfl) (zaan Dpads_of hr (glx24.g 0 rfl) pass0 (zaaa (qv av24 0 rfl) zaab zaac) zae3)) (zaaf (zaa4 (zabj (zaa3 (zaan Dis_below hr (glx24.g 1 rfl) pass0 (zaaa (qv av24 1 rfl) (zaaa (zaaj zaau (glx24.g 2 rfl) z_len PySem.boot_len (zaaa (qv av24 2 rfl) zaab zaac) zab0 zab1) zaab zabt) zaac) zab7))) (zaak (zac9 (glx24.g 3 rfl) m_OutOfFloor X_OutOfFloor (zaaa zaa2 zaab zaae) zacl)) zaas) (zaaf (zaav (i := 3) nd rfl (av24.l 3 rfl) (zaa1 zaa9 (zaa1 zabn (qv av24 2 rfl) (qv av24 1 rfl) (fun _ _ => rfl)) zaad (fun _ _ => rfl))) (zaaf (zaav (i := 4) nd rfl (av24.l 4 rfl) (zaa1 zaa9 (zaa1 zabn (qv av24 2 rfl) (qv av24 1 rfl) (fun _ _ => rfl)) zaad (fun _ _ => rfl))) (zabo (zaav (i := 5) nd rfl (av24.l 5 rfl) (zadl (zaa3 (zaan Dis_below hr (glx24.g 1 rfl) pass0 (zaaa (qv av24 3 rfl) (zaaa (zabq (qv av24 0 rfl) rfl) zaab zaa0) zaac) zab7)) zaa2 zaa2)) (zabo (zaa4 (zaaw zacw (qv av24 4 rfl) (zabq (qv av24 0 rfl) rfl) (nomark _)) (zaak (zaav (i := 4) nd rfl (av24.l 4 rfl) (zaaq zack (qv av24 4 rfl) zaad))) zaas) (zabo (zaa4 (zaaw zacw (qv av24 3 rfl) (zabq (qv av24 0 rfl) rfl) (nomark _)) (zaak (zaav (i := 3) nd rfl (av24.l 3 rfl) (zaaq zack (qv av24 3 rfl) zaad))) zaas) (zaak (zaap (zabb rfl zakt (zaaz (glx24.g 4 rfl) z_range (zaaa (zabq (qv av24 0 rfl) rfl) zaab zaa0)) (fun _ _ _ _ _ => (zaao (i := 0) zakt.nd rfl (Or.inl (zaku.k 0 rfl)) (Or.inr (zaku.k 0 rfl)))) (fun _ _ _ _ _ => zabh) (fun _ _ _ _ _ => (zaam (zaaa (qw zafu 1 rfl) (zaaa (qw zafu 2 rfl) (zaaa (qw zafu 3 rfl) (zaaa (qw zafu 0 rfl) zaab zaac) zaac) zaac) zaac)))))))))))))), ?_⟩
 (try dsimp only [cxOf])
 have fr := zacm r c t
 have fc := zab4 r c t
 have ft := zaci r c t
 walk_at "rd"
 rename_i sl ys H1 d1 f1 g1 lw
 have ll := lw.len
 rw [zacn] at ll
 have hf1 : H1 fa = some (.ins C dx (fldsF r c t)) := d1.get hf (by simp)
 have eb : belB pad (ys.length : Int) = belB pad (2 * ((r : Int) + c)) := by rw [ll]; congr 1
 walk_at "rd"
 rw [eb]
 cases hB : belB pad (2 * ((r : Int) + c)) with
 | false =>
  walk_at "rd"
  exact q2 hB _ d1
 | true =>
  obtain ⟨p0, p1⟩ : 0 ≤ pad ∧ pad < 2 * ((r : Int) + c) := by simpa [belB] using hB
  obtain ⟨n, rfl⟩ : ∃ n : Nat, pad = (n : Int) := ⟨pad.toNat, by omega⟩
  have hn : n < (padsK r c).length := by rw [zacn]; omega
  obtain ⟨a, b, ek, _⟩ := zael (List.getElem_mem hn)
  have hk : (padsK r c)[n]? = some (bxK (a, b)) := by rw [List.getElem?_eq_getElem hn, ek]
  have q1 := q1 n a b rfl hk
  obtain ⟨p, hp, gp⟩ := lw.at hk
  have gp : H1 p = some (.tup [.int a, .int b]) := gp
  clear q2 hB eb ek lw
  have hp := zafa hp
  walk_at "rd"
  refine zach (fun σ H' => H' = H1 ∧ σ = [some (.ref fa), some (.int (n : Int)), some (.ref sl), some (.int a), some (.int b), some (.str (wd (belB a r)))]) ?_ ?_
  ·walk_at "rd"
   cases hA : belB a r with
   | true => walk_at "rd"
   | false => walk_at "rd"
  rintro σ H' ⟨rfl, rfl⟩
  refine zach (fun σ H'' => H'' = H' ∧ σ = [some (.ref fa), some (.int (n : Int)), some (.ref sl), some (.int a), some (.int (less1 b c)), some (.str (wd (belB a r)))]) ?_ ?_
  ·walk_at "rd"
   refine ite2 (fun h => ?_) (fun h => ?_)
   ·have h : b = (c : Int) := by simpa using h
    rw [show less1 b c = b - 1 from if_pos h]
    walk_at "rd"
   ·have h : ¬ b = (c : Int) := by simpa using h
    rw [show less1 b c = b from if_neg h]
    walk_at "rd"
  rintro σ H' ⟨rfl, rfl⟩
  refine zach (fun σ H'' => H'' = H' ∧ σ = [some (.ref fa), some (.int (n : Int)), some (.ref sl), some (.int (less1 a r)), some (.int (less1 b c)), some (.str (wd (belB a r)))]) ?_ ?_
  ·walk_at "rd"
   refine ite2 (fun h => ?_) (fun h => ?_)
   ·have h : a = (r : Int) := by simpa using h
    rw [show less1 a r = a - 1 from if_pos h]
    walk_at "rd"
   ·have h : ¬ a = (r : Int) := by simpa using h
    rw [show less1 a r = a from if_neg h]
    walk_at "rd"
  rintro σ H' ⟨rfl, rfl⟩
  walk_at "rd"
  refine zabg (fun m zs σ H'' => Ch [] H' H'' ∧ LW H'' (rng 0 m fun k => wK (belB a r, less1 a r, less1 b c, k)) zs ∧ ∃ u, σ = [u, some (.str (wd (belB a r))), some (.int (less1 a r)), some (.int (less1 b c))]) (by rw [sizeLine_eq]; omega) ⟨Ch.refl _ _, .nil, _, rfl⟩ ?_ ?_ ?_
  ·rintro m zs σ H'' hm ⟨_, lz, _⟩
   rw [lz.len, zabc]; exact Nat.le_refl _
  ·rintro m zs σ H'' hm ⟨c2, lz, u, rfl⟩
   walk_at "rd"
   rename_i p hp
   refine ⟨?_, _, rfl⟩
   rw [zabp]
   exact lz.snoc (k := wK (belB a r, less1 a r, less1 b c, 0 + (m : Int))) hp
  rintro zs σ H2 ⟨d2, lz, _⟩
  intro D hD
  rw [Int.toNat_natCast] at lz
  have d := d1.trans d2
  exact q1 D zs _ (d.trans (Ch.new hD _)) (chFree d hD) zaal (lz.ch (Ch.new hD _))
theorem av25 : AF (defScope (top 25)) ["floor", "wires", "word", "low_row", "low_column", "row", "column"] := ⟨by decide +kernel⟩
theorem gl25 : AG (defScope (top 25)) ["range"] := ⟨by decide +kernel⟩
def zahk : Scope := { kind := PySem.ScopeKind.function, names := [ (PySem.Str.ofString ".0", PySem.NameKind.local), (PySem.Str.ofString "track", PySem.NameKind.local), (PySem.Str.ofString "column", PySem.NameKind.free), (PySem.Str.ofString "row", PySem.NameKind.free), (PySem.Str.ofString "word", PySem.NameKind.free)], isGenerator := false, isCoroutine := false, more := [] : PySem.Scope }
theorem zakv : CompOk zahk (defScope (top 25)) (["track"] : List Str) (["floor", "wires", "word", "low_row", "low_column", "row", "column"] : List Str) [2, 5, 6] (["track", "word", "row", "column"] : List Str) := compOk rfl (by decide +kernel) (by decide +kernel) (by decide +kernel) (by decide +kernel) rfl (by decide +kernel)
theorem zakw : AK (relab zahk (defScope (top 25))) ["track"] := ⟨by decide +kernel⟩
theorem zafv : AV (relab zahk (defScope (top 25))) ["track", "word", "row", "column"] := ⟨by decide +kernel⟩
def spWires (C : Addr) : Sp := fun vs H Q _ => ∃ (fa dx : Addr) (r c t : Nat), vs = [.ref fa] ∧ H fa = some (.ins C dx (fldsF r c t)) ∧ (r ≤ 10 ∧ c ≤ 10 ∧ t ≤ 8) ∧ ∀ l ys H', Ch [] H H' → H l = none → H' l = some (.lst ys) → LW H' (wiresK r c t) ys → Q (.ref l) H'
theorem scWires : FnScope ["floor", "wires", "word", "low_row", "low_column", "row", "column"] ["floor"] (defScope (top 25)) := ⟨rfl, rfl, rfl, by decide +kernel, rfl, by decide +kernel, by decide +kernel⟩
theorem zam6 {C : Addr} (F : Fun K "wires_of" "wires_of" (top 25) f fd) (cl : Cls K C) (nR : NoAttr K C "rows") (nC : NoAttr K C "columns") (nT : NoAttr K C "tracks") (z_range : mg "range" = none) : FnOk P w K mg base CX0 (k + 1) f fd ["floor"] (spWires C) := by
 have nd := scWires.nd
 refine F.ok scWires (fun vs H Q E h => by obtain ⟨fa, dx, r, c, t, rfl, _⟩ := h; rfl) (fun cdv A outer s H vs Q E hr h => ?_)
 obtain ⟨fa, dx, r, c, t, rfl, hf, ⟨r1, c1, t1⟩, q⟩ := h
 refine ⟨_, (Pr.h (zaaf (zaav (i := 1) nd rfl (av25.l 1 rfl) (zabm zaab)) (zaaf (zabk PassesOwn.never rfl (zafe (zaam (zaaa (zaam (zaaa zaa2 (zaaa zaad (zaaa (zab3 zab2 zaad) zaab zaa6) zaae) zaae)) (zaaa (zaam (zaaa zaa2 (zaaa (zab3 zab2 zaad) (zaaa zaad zaab zaae) zaa6) zaae)) zaab zaar) zaar))) (zaee rfl (zaba (zaao (i := 2) nd rfl (av25.l 2 rfl)) (zaba (zaao (i := 3) nd rfl (av25.l 3 rfl)) (zaba (zaao (i := 4) nd rfl (av25.l 4 rfl)) zaco)))) (zaak (zabk PassesOwn.never rfl (zac7 (gl25.g 0 rfl) z_range (zaaa (qv av25 3 rfl) (zaaa (zabq (qv av25 0 rfl) rfl) zaab zaa0) zaac)) (zaao (i := 5) nd rfl (av25.l 5 rfl)) (zaak (zabk PassesOwn.never rfl (zac7 (gl25.g 0 rfl) z_range (zaaa (qv av25 4 rfl) (zaaa (zabq (qv av25 0 rfl) rfl) zaab zaa0) zaac)) (zaao (i := 6) nd rfl (av25.l 6 rfl)) (zaak (zacp (zaex PySem.F.plainAttrs_list PySem.F.slot_list_extend PySem.F.type_list_extend zadk (qv av25 1 rfl) (zaaa (zabb rfl zakv (zaaz (gl25.g 0 rfl) z_range (zaaa (zabq (qv av25 0 rfl) rfl) zaab zaa0)) (fun _ _ _ _ _ => (zaao (i := 0) zakv.nd rfl (Or.inl (zakw.k 0 rfl)) (Or.inr (zakw.k 0 rfl)))) (fun _ _ _ _ _ => zabh) (fun _ _ _ _ _ => (zaam (zaaa (qw zafv 1 rfl) (zaaa (qw zafv 2 rfl) (zaaa (qw zafv 3 rfl) (zaaa (qw zafv 0 rfl) zaab zaac) zaac) zaac) zaac)))) zaab zabi))))))))) (zaak (zaap (qv av25 1 rfl)))))), ?_⟩
 (try dsimp only [cxOf])
 have fr := zacm r c t
 have fc := zab4 r c t
 have ft := zaci r c t
 walk_at "rd"
 rename_i D hD a1 h1 a2 h2 a3 h3
 obtain ⟨H4, e4⟩ : ∃ H4, upd (upd (upd (upd H D (.lst [])) a1 (.tup [.str "h", .int 0, .int (-1)])) a2 (.tup [.str "v", .int (-1), .int 0])) a3 (.tup [.ref a1, .ref a2]) = H4 := ⟨_, rfl⟩
 have c4 : Ch [] H H4 := by rw [← e4]; exact (((Ch.new hD _).trans (Ch.new h1 _)).trans (Ch.new h2 _)).trans (Ch.new h3 _)
 have g3 : H4 a3 = some (.tup [.ref a1, .ref a2]) := by rw [← e4]; exact zaal
 have g2 : H4 a2 = some (.tup [.str "v", .int (-1), .int 0]) := by rw [← e4]; exact zabe h3 zaal
 have g1 : H4 a1 = some (.tup [.str "h", .int 0, .int (-1)]) := by rw [← e4]; exact zabe h3 (zabe h2 zaal)
 have g0 : H4 D = some (.lst []) := by rw [← e4]; exact zabe h3 (zabe h2 (zabe h1 zaal))
 rw [e4]
 clear e4 h1 h2 h3
 refine zah5 (xs := [.ref a1, .ref a2]) (fun i σ H' => (∃ u1 u2 u3 u4 u5, σ = [some (.ref fa), some (.ref D), u1, u2, u3, u4, u5]) ∧ Ch [] H H' ∧ Tu H4 H' ∧ ∃ ys, H' D = some (.lst ys) ∧ LW H' (([true, false].take i).map fun hv => halfK hv r c t).flatten ys) ⟨⟨_, _, _, _, _, rfl⟩, c4, Tu.refl _, _, g0, .nil⟩ ?_ ?_ ?_
 ·rintro i σ H' hi ⟨_, _, tu, _⟩
  exact SqT.of (tu _ _ g3)
 ·rintro i z σ H' hz ⟨⟨u1, u2, u3, u4, u5, rfl⟩, c5, tu, ys, gD, lw⟩
  obtain ⟨b, hv, rfl, gb, eh⟩ : ∃ (b : Addr) (hv : Bool), z = .ref b ∧ H' b = some (.tup [.str (wd hv), .int (lo !hv), .int (lo hv)]) ∧ [true, false][i]? = some hv := by
   match i, hz with
   | 0, hz => cases hz; exact ⟨a1, true, rfl, tu _ _ g1, rfl⟩
   | 1, hz => cases hz; exact ⟨a2, false, rfl, tu _ _ g2, rfl⟩
   | i + 2, hz => cases hz
  rw [List.take_add_one, eh, List.map_append, List.flatten_append]
  have kl : ∀ hv', some hv' = some hv → (([true, false].take i).map fun hv => halfK hv r c t).flatten.length ≤ 968 := fun _ _ => by
   have h88 := zaft true r1 c1 t1
   match i, hz with
   | 0, _ => simp
   | 1, _ => simp; exact h88
   | i + 2, hz => cases hz
  generalize (([true, false].take i).map fun hv => halfK hv r c t).flatten = ks at lw kl ⊢
  have tu5 := tu
  have hf5 : H' fa = some (.ins C dx (fldsF r c t)) := c5.get hf (by simp)
  have l1 := lo_b (!hv)
  have l2 := lo_b hv
  have er : ((r : Int) - lo !hv).toNat = r + (if hv then 0 else 1) := by cases hv <;> simp [lo] <;> omega
  have ec : ((c : Int) - lo hv).toNat = c + (if hv then 1 else 0) := by cases hv <;> simp [lo] <;> omega
  have kl2 : ks.length ≤ 968 := kl hv rfl
  clear tu kl eh
  walk_at "rd"
  refine zabf (fun m σ H'' => (∃ u5 u6, σ = [some (.ref fa), some (.ref D), some (.str (wd hv)), some (.int (lo !hv)), some (.int (lo hv)), u5, u6]) ∧ Ch [] H H'' ∧ Tu H4 H'' ∧ ∃ ys, H'' D = some (.lst ys) ∧ LW H'' (ks ++ fl (lo !hv) m (fun i => colsK hv c t i)) ys) ⟨⟨_, _, rfl⟩, c5, tu5, ys, gD, by rw [show fl (lo !hv) 0 (fun i => colsK hv c t i) = [] from rfl, List.append_nil]; exact lw⟩ ?_ ?_
  ·rintro m σ H6 hm ⟨⟨u5, u6, rfl⟩, c6, tu6, ys6, gD6, lw6⟩
   have hm' : m ≤ 10 := by rw [er] at hm; split at hm <;> omega
   have kl6 : (ks ++ fl (lo !hv) m (fun i => colsK hv c t i)).length ≤ 1848 := by
    have := zafq (lo := lo !hv) (g := fun i => colsK hv c t i) (b := 88) (fun x => zafs hv c1 t1 x) m
    rw [List.length_append]
    omega
   rw [zac3, ← List.append_assoc]
   generalize ks ++ fl (lo !hv) m (fun i => colsK hv c t i) = ks6 at lw6 kl6 ⊢
   have hf6 : H6 fa = some (.ins C dx (fldsF r c t)) := c6.get hf (by simp)
   walk_at "rd"
   refine zabf (fun m2 σ H'' => (∃ u6, σ = [some (.ref fa), some (.ref D), some (.str (wd hv)), some (.int (lo !hv)), some (.int (lo hv)), some (.int (lo (!hv) + (m : Int))), u6]) ∧ Ch [] H H'' ∧ Tu H4 H'' ∧ ∃ ys, H'' D = some (.lst ys) ∧ LW H'' (ks6 ++ fl (lo hv) m2 (fun j => trk hv t (lo (!hv) + (m : Int)) j)) ys) ⟨⟨_, rfl⟩, c6, tu6, ys6, gD6, by rw [show fl (lo hv) 0 (fun j => trk hv t (lo (!hv) + (m : Int)) j) = [] from rfl, List.append_nil]; exact lw6⟩ ?_ ?_
   ·rintro m2 σ H7 hm2 ⟨⟨u6, rfl⟩, c7, tu7, ys7, gD7, lw7⟩
    have hm2' : m2 ≤ 10 := by rw [ec] at hm2; split at hm2 <;> omega
    have kl7 : ys7.length ≤ 1928 := by
     have := zafq (lo := lo hv) (g := fun j => trk hv t (lo (!hv) + (m : Int)) j) (b := 8) (fun x => by rw [zaek]; exact t1) m2
     rw [lw7.len, List.length_append]
     omega
    rw [zac3, ← List.append_assoc]
    generalize ks6 ++ fl (lo hv) m2 (fun j => trk hv t (lo (!hv) + (m : Int)) j) = ks7 at lw7 ⊢
    have hf7 : H7 fa = some (.ins C dx (fldsF r c t)) := c7.get hf (by simp)
    walk_at "rd"
    refine zabg (fun m3 zs σ H' => Ch [] H7 H' ∧ LW H' (rng 0 m3 fun k => wK (hv, lo (!hv) + (m : Int), lo hv + (m2 : Int), k)) zs ∧ ∃ u, σ = [u, some (.str (wd hv)), some (.int (lo (!hv) + (m : Int))), some (.int (lo hv + (m2 : Int)))]) (by rw [sizeLine_eq]; omega) ⟨Ch.refl _ _, .nil, _, rfl⟩ ?_ ?_ ?_
    ·rintro m3 zs σ H' hm ⟨_, lz, _⟩
     rw [lz.len, zabc]; exact Nat.le_refl _
    ·rintro m3 zs σ H' hm ⟨c2, lz, u, rfl⟩
     walk_at "rd"
     rename_i p hp
     refine ⟨?_, _, rfl⟩
     rw [zabp]
     exact lz.snoc (k := wK (hv, lo (!hv) + (m : Int), lo hv + (m2 : Int), 0 + (m3 : Int))) hp
    rintro zs σ H8 ⟨d8, lz, _⟩
    intro E hE
    rw [Int.toNat_natCast] at lz
    have lzl := lz.len
    rw [zabc] at lzl
    obtain ⟨c9, g9, lw9⟩ := zaii c7 hD gD7 lw7 d8 hE lz
    have gE : upd H8 E (.lst zs) E = some (.lst zs) := zaal
    have gD8 : upd H8 E (.lst zs) D = some (.lst ys7) := zabe hE (d8.get gD7 (by simp))
    have lt : ys7.length + zs.length ≤ sizeLine := by rw [sizeLine_eq]; omega
    have tu9 : Tu H4 (upd (upd H8 E (.lst zs)) D (.lst (ys7 ++ zs))) := (tu7.trans (Tu.same (d8.trans (Ch.new hE _)))).trans (Tu.lst Ch.put gD8)
    clear lw7 lz d8 hE gD7 c7 tu7
    walk_at "rd"
    exact ⟨⟨_, rfl⟩, c9, tu9, _, g9, lw9⟩
   ·rintro σ H7 ⟨⟨u6, rfl⟩, c7, tu7, ys7, gD7, lw7⟩
    rw [ec] at lw7
    exact ⟨⟨_, _, rfl⟩, c7, tu7, _, gD7, lw7⟩
  ·rintro σ H6 ⟨⟨u5, u6, rfl⟩, c6, tu6, ys6, gD6, lw6⟩
   rw [er] at lw6
   refine ⟨⟨_, _, _, _, _, rfl⟩, c6, tu6, _, gD6, ?_⟩
   rw [show (List.map (fun hv => halfK hv r c t) (some hv).toList).flatten = halfK hv r c t from by simp]
   exact lw6
 ·rintro σ H' ⟨⟨u1, u2, u3, u4, u5, rfl⟩, c5, _, ys, gD, lw⟩
  walk_at "rd"
  refine q D ys _ c5 hD gD ?_
  rw [show wiresK r c t = ((List.take [V.ref a1, V.ref a2].length [true, false]).map fun hv => halfK hv r c t).flatten from by simp [wiresK]]
  exact lw
end
end

section
def spNext (K : PySem.W.Frag) : Sp := fun vs H Q _ => ∃ (a b : Addr) (ns : List Int) (c : Int), vs = [.ref a, .ref b] ∧ Scr K H a ns ∧ H b = some (.lst [.int c]) ∧ 0 ≤ c ∧ c < 2 ^ 60 ∧
 ∀ (n : Int) (H' : Hp), 0 ≤ n → n < 2147483629 → Ch [b] H H' → H' b = some (.lst [.int (c + 1)]) → Q (.int n) H'
def Eqv : Nat → Hp → V → V → Prop
 | 0, _, _, _ => False
 | n + 1, H, x, y => (∃ k : Key, x = kV k ∧ y = kV k) ∨ (∃ (p r : Addr) (xs ys : List V), x = .ref p ∧ y = .ref r ∧ H p = some (.tup xs) ∧ H r = some (.tup ys) ∧ Paired (Eqv n H) xs ys ∧ xs.length ≤ 4000) ∨
  ∃ (p r : Addr) (xs ys : List V), x = .ref p ∧ y = .ref r ∧ H p = some (.lst xs) ∧ H r = some (.lst ys) ∧ Paired (Eqv n H) xs ys ∧ xs.length ≤ 4000
theorem Eqv.ch {H H' : Hp} (c : Ch [] H H') : ∀ {n : Nat} {x y : V}, Eqv n H x y → Eqv n H' x y
 | 0, _, _, h => h
 | n + 1, x, y, h => by
  rcases h with h | ⟨p, r, xs, ys, e1, e2, g1, g2, pr, l⟩ | ⟨p, r, xs, ys, e1, e2, g1, g2, pr, l⟩
  ·exact .inl h
  ·exact .inr (.inl ⟨p, r, xs, ys, e1, e2, c.get g1 (by simp), c.get g2 (by simp), zaca (fun _ _ => Eqv.ch c) pr, l⟩)
  ·exact .inr (.inr ⟨p, r, xs, ys, e1, e2, c.get g1 (by simp), c.get g2 (by simp), zaca (fun _ _ => Eqv.ch c) pr, l⟩)
section
variable {P : Program} {w : World} {K : PySem.W.Frag} {mg : Str → Option Value} {base : Heap} {f : Addr} {fd : FuncData} {k : Nat}
theorem zads : bootBuiltins "dict" = some (.type "dict") := by decide +kernel
theorem zadt : ("dict" : Str) ≠ "__name__" := by decide +kernel
theorem zadu : Nd "dict" := by decide +kernel
theorem zaa8 : Nd "_law_same" := by decide +kernel
theorem zae4 : bootBuiltins "str" = some (.type "str") := by decide +kernel
theorem zae5 : ("str" : Str) ≠ "__name__" := by decide +kernel
theorem zae6 : Nd "str" := by decide +kernel
theorem av28 : AF (defScope (top 28)) ["_law_script", "_law_at", "_law_cell", "_law_figures", "_law_k", "_law_m"] := ⟨by decide +kernel⟩
theorem gl28 : AG (defScope (top 28)) ["len", "range"] := ⟨by decide +kernel⟩
theorem scNext : FnScope ["_law_script", "_law_at", "_law_cell", "_law_figures", "_law_k", "_law_m"] ["_law_script", "_law_at"] (defScope (top 28)) := ⟨rfl, rfl, rfl, by decide +kernel, rfl, by decide +kernel, by decide +kernel⟩
theorem zapk (F : Fun K "_law_next" "_law_next" (top 28) f fd) (z_len : mg "len" = none) (z_range : mg "range" = none) :
  FnOk P w K mg base CX0 (k + 1) f fd ["_law_script", "_law_at"] (spNext K) := by
 have nd := scNext.nd
 refine F.ok scNext (fun vs H Q E h => ?_) (fun cdv A outer s H vs Q E hr h => ?_)
 ·obtain ⟨a, b, ns, c, rfl, _⟩ := h
  rfl
 obtain ⟨a, b, ns, c, rfl, hS, hb, h0, h1, q⟩ := h
 refine ⟨_, (Pr.h (zaaf (zaff (zaaq zabw (zaa1 zabn (qv av28 1 rfl) zaad (fun _ _ => rfl)) zaad) (zao1 (qv av28 1 rfl) zaad zamd)) (zaaf (zaav (i := 2) nd rfl (av28.l 2 rfl) zaad) (zabo (zaa4 (zaaw zaog (zaaj zaau (gl28.g 0 rfl) z_len PySem.boot_len (zaaa (qv av28 0 rfl) zaab zaac) zab0 zab1) zaad (nomark _)) (zaak (zaav (i := 2) nd rfl (av28.l 2 rfl) (zaa1 zabn (qv av28 0 rfl) (zaaq zacu (zaa1 zabn (qv av28 1 rfl) zaad (fun _ _ => rfl)) (zaaj zaau (gl28.g 0 rfl) z_len PySem.boot_len (zaaa (qv av28 0 rfl) zaab zaac) zab0 zab1)) (fun _ _ => rfl)))) zaas) (zabo (zaa4 (zab8 (zafd (zaaw zaog (zaaj zaau (gl28.g 0 rfl) z_len PySem.boot_len (zaaa (qv av28 0 rfl) zaab zaac) zab0 zab1) zaad (nomark _)) (zah8 (zaaw zacw (zaaq zacu (zaa1 zabn (qv av28 0 rfl) zaad (fun _ _ => rfl)) zaad) zaad (nomark _))))) (zaaf (zaav (i := 3) nd rfl (av28.l 3 rfl) (qv av28 2 rfl)) (zaaf (zabk PassesOwn.never rfl (zaaz (gl28.g 1 rfl) z_range (zaaa (zaaq zacu (zaaq zacx (zaa1 zabn (qv av28 1 rfl) zaad (fun _ _ => rfl)) (zaaj zaau (gl28.g 0 rfl) z_len PySem.boot_len (zaaa (qv av28 0 rfl) zaab zaac) zab0 zab1)) zaad) zaab zaa7)) (zaao (i := 4) nd rfl (av28.l 4 rfl)) (zaak (zaav (i := 3) nd rfl (av28.l 3 rfl) (zaaq zacx (qv av28 3 rfl) zaad)))) (zaak (zaa4 (zab8 (zab9 (zaaw zagl (qv av28 3 rfl) (zaam (zaaa zaad (zaaa (zab3 zab2 zaad) zaab zaa6) zaae)) rfl) (zabx (zaaw zag5 (zaa1 zabn (qv av28 1 rfl) zaad (fun _ _ => rfl)) (zaaj zaau (gl28.g 0 rfl) z_len PySem.boot_len (zaaa (qv av28 0 rfl) zaab zaac) zab0 zab1) (nomark _))))) (zaak (zaap (zaaq zacu (qv av28 3 rfl) zaad))) zaas)))) zaas) (zaaf (zaav (i := 5) nd rfl (av28.l 5 rfl) (zaaq zacu (zaaq zadi (zaaq zabw (zaaq zabw (zaaq zacu (qv av28 2 rfl) zaad) (zaaq zadi (zaaq zadi (zaa1 zabn (qv av28 1 rfl) zaad (fun _ _ => rfl)) (zaa1 zabn (qv av28 1 rfl) zaad (fun _ _ => rfl))) zaad)) zaad) zaad) zaad)) (zaaf (zaav (i := 5) nd rfl (av28.l 5 rfl) (zaaq zacu (zaaq zadi (qv av28 5 rfl) (qv av28 5 rfl)) zaad)) (zaak (zaap (zaaq zacu (zaaq zadi (zaaq zabw (qv av28 5 rfl) (zaaq zadi (zaa1 zabn (qv av28 1 rfl) zaad (fun _ _ => rfl)) zaad)) zaad) zaad)))))))))), ?_⟩
 have h63 : ns.length ≤ 63 := hS.1
 (try dsimp only [cxOf])
 walk_at "rd"
 refine zach (fun σ H' => ∃ n : Int, σ = [some (.ref a), some (.ref b), some (.int n), none, none, none] ∧ Ch [b] H H' ∧ H' b = some (.lst [.int (c + 1)])) ?_ ?_
 ·walk_at "rd"
  refine ite2 (fun hc => ?_) (fun hc => ?_)
  ·have hc' : 0 < (ns.length : Int) := by simpa using hc
   have e1 : 0 ≤ (c + 1) % (ns.length : Int) := Int.emod_nonneg _ (by omega)
   have e2 : (c + 1) % (ns.length : Int) < (ns.length : Int) := Int.emod_lt_of_pos _ hc'
   obtain ⟨n, hn⟩ := zah6 e1 e2
   walk_at "rd"
  ·walk_at "rd"
 ·rintro σ H1 ⟨n, rfl, c1, b1⟩
  have hS1 : Scr K H1 a ns := hS.ch hb c1
  refine zach (fun σ H' => ∃ u v w, σ = [some (.ref a), some (.ref b), some (.int n), u, v, w] ∧ Ch [b] H H' ∧ H' b = some (.lst [.int (c + 1)])) ?_ ?_
  ·walk_at "rd"
   refine ite2 (fun hc => ?_) (fun hc => iteF ?_)
   ·have hc' : 0 < (ns.length : Int) := by simpa using hc
    obtain ⟨n0, hn0⟩ := zah6 (ns := ns) (i := 0) (by omega) hc'
    walk_at "rd"
    refine ite2 (fun hd => ?_) (fun hd => ?_)
    ·walk_at "rd"
     refine zabf (fun i σ H' => H' = H1 ∧ ∃ g kk, σ = [some (.ref a), some (.ref b), some (.int n), some (.int g), kk, none]) ⟨rfl, _, _, rfl⟩ ?_ ?_
     ·rintro i σ H' hi ⟨rfl, g, kk, rfl⟩
      walk_at "rd"
     ·rintro σ H' ⟨rfl, g, kk, rfl⟩
      walk_at "rd"
      refine ite2 (fun hd => iteT ?_) (fun hd => ?_)
      ·walk_at "rd"
       exact q _ _ (Int.emod_nonneg _ (by decide)) (Int.lt_of_lt_of_le (Int.emod_lt_of_pos _ (by decide)) (by decide)) (c1.trans (Ch.new (by assumption) _)) (by walk_at "get")
      ·walk_at "rd"
       refine ite2 (fun he => ?_) (fun he => ?_)
       ·walk_at "rd"
        exact q _ _ (Int.emod_nonneg _ (by decide)) (Int.lt_of_lt_of_le (Int.emod_lt_of_pos _ (by decide)) (by decide)) (c1.trans (Ch.new (by assumption) _)) (by walk_at "get")
       ·walk_at "rd"
    ·walk_at "rd"
   ·walk_at "rd"
  ·rintro σ H2 ⟨u, v, w, rfl, c2, b2⟩
   walk_at "rd"
   exact q _ _ (Int.emod_nonneg _ (by decide)) (Int.emod_lt_of_pos _ (by decide)) c2 b2
theorem av29 : AF (defScope (top 29)) ["_law_found", "_law_due"] := ⟨by decide +kernel⟩
theorem gl29 : AG (defScope (top 29)) ["isinstance", "dict", "len", "all", "tuple", "list", "zip", "str", "bool", "int"] := ⟨by decide +kernel⟩
def zafw : Scope := { kind := PySem.ScopeKind.function, names := [ (PySem.Str.ofString ".0", PySem.NameKind.local), (PySem.Str.ofString "_law_name", PySem.NameKind.local), (PySem.Str.ofString "_law_same", PySem.NameKind.globalImplicit), (PySem.Str.ofString "_law_due", PySem.NameKind.free), (PySem.Str.ofString "_law_found", PySem.NameKind.free)], isGenerator := false, isCoroutine := false, more := [] : PySem.Scope }
theorem zadv : CompOk zafw (defScope (top 29)) (["_law_name"] : List Str) (["_law_found", "_law_due"] : List Str) [0, 1] (["_law_name", "_law_found", "_law_due"] : List Str) := compOk rfl (by decide +kernel) (by decide +kernel) (by decide +kernel) (by decide +kernel) rfl (by decide +kernel)
theorem zadw : AK (relab zafw (defScope (top 29))) ["_law_name"] := ⟨by decide +kernel⟩
theorem zahl : AG (relab zafw (defScope (top 29))) ["_law_same"] := ⟨by decide +kernel⟩
theorem zaby : AV (relab zafw (defScope (top 29))) ["_law_name", "_law_found", "_law_due"] := ⟨by decide +kernel⟩
def zafx : Scope := { kind := PySem.ScopeKind.function, names := [ (PySem.Str.ofString ".0", PySem.NameKind.local), (PySem.Str.ofString "_law_one", PySem.NameKind.local), (PySem.Str.ofString "_law_other", PySem.NameKind.local), (PySem.Str.ofString "_law_same", PySem.NameKind.globalImplicit)], isGenerator := false, isCoroutine := false, more := [] : PySem.Scope }
theorem zac4 : CompOk zafx (defScope (top 29)) (["_law_one", "_law_other"] : List Str) (["_law_found", "_law_due"] : List Str) [] (["_law_one", "_law_other"] : List Str) := compOk rfl (by decide +kernel) (by decide +kernel) (by decide +kernel) (by decide +kernel) rfl (by decide +kernel)
theorem zacj : AK (relab zafx (defScope (top 29))) ["_law_one", "_law_other"] := ⟨by decide +kernel⟩
theorem zahm : AG (relab zafx (defScope (top 29))) ["_law_same"] := ⟨by decide +kernel⟩
theorem zadx : AV (relab zafx (defScope (top 29))) ["_law_one", "_law_other"] := ⟨by decide +kernel⟩
structure EqvS (n : Nat) (H : Hp) (x y : V) : Prop where
 h : Eqv n H x y
def spSame (n : Nat) : Sp := fun vs H Q _ => ∃ (x y : V), vs = [x, y] ∧ EqvS n H x y ∧ ∀ H', Ch [] H H' → Q (.bl true) H'
theorem scSame : FnScope ["_law_found", "_law_due"] ["_law_found", "_law_due"] (defScope (top 29)) := ⟨rfl, rfl, rfl, by decide +kernel, rfl, by decide +kernel, by decide +kernel⟩
theorem zam7 (F : Fun K "_law_same" "_law_same" (top 29) f fd) : FnOk P w K mg base CX0 (k + 1) f fd ["_law_found", "_law_due"] (spSame 0) :=
 F.ok scSame (fun vs H Q E h => by obtain ⟨x, y, rfl, _⟩ := h; rfl) (fun cdv A outer s H vs Q E hr h => by obtain ⟨_, _, _, e, _⟩ := h; exact e.h.elim)
theorem zahn (n : Nat) (F : Fun K "_law_same" "_law_same" (top 29) f fd) (D_law_same : DefOk P w K mg base CX0 k "_law_same" ["_law_found", "_law_due"] (spSame n)) (z_isinstance : mg "isinstance" = none) (z_dict : mg "dict" = none) (z_list : mg "list" = none) (z_tuple : mg "tuple" = none) (z_str : mg "str" = none) (z_int : mg "int" = none) (z_bool : mg "bool" = none) (z_len : mg "len" = none) (z_all : mg "all" = none) (z_zip : mg "zip" = none) :
  FnOk P w K mg base CX0 (k + 1) f fd ["_law_found", "_law_due"] (spSame (n + 1)) := by
 have nd := scSame.nd
 refine F.ok scSame (fun vs H Q E h => by obtain ⟨x, y, rfl, _⟩ := h; rfl) (fun cdv A outer s H vs Q E hr h => ?_)
 obtain ⟨x, y, rfl, ⟨e⟩, q⟩ := h
 rcases e with ⟨kk, rfl, rfl⟩ | ⟨p, r, xs, ys, rfl, rfl, g1, g2, pr, l⟩ | ⟨p, r, xs, ys, rfl, rfl, g1, g2, pr, l⟩
 ·refine ⟨_, (Pr.h (zaaf (zaa4 (zaaw zaeu (qv av29 1 rfl) zacy (nomark _)) (zaak (zaap (zabu zaeu (qv av29 0 rfl) zacy (nomark _)))) zaas) (zaaf (zaa4 (zaa3 (zaaj zaay (gl29.g 0 rfl) z_isinstance zaag (zaaa (qv av29 1 rfl) (zaaa (zaax (v := .ty "dict") (gl29.g 1 rfl) z_dict zads rfl zadt zadu) zaab)) zaah zaai)) (zaaf (zaa4 (zab8 (zab9 (zabj (zaa3 (zaaj zaay (gl29.g 0 rfl) z_isinstance zaag (zaaa (qv av29 0 rfl) (zaaa (zaax (v := .ty "dict") (gl29.g 1 rfl) z_dict zads rfl zadt zadu) zaab)) zaah zaai))) (zabx (zaaw zadb (zaaj zaau (gl29.g 2 rfl) z_len PySem.boot_len (zaaa (qv av29 0 rfl) zaab zaac) zab0 zab1) (zaaj zaau (gl29.g 2 rfl) z_len PySem.boot_len (zaaa (qv av29 1 rfl) zaab zaac) zab0 zab1) (nomark _))))) (zaak (zaap zabz)) zaas) (zaak (zaap (zaaj (zac1 rfl) (gl29.g 3 rfl) z_all zaeh (zaaa (zabb rfl zadv (zacz (qv av29 1 rfl)) (fun _ _ _ _ _ => (zaao (i := 0) zadv.nd rfl (Or.inl (zadw.k 0 rfl)) (Or.inr (zadw.k 0 rfl)))) (fun _ _ _ _ _ => zabh) (fun _ _ _ _ _ => (zabv (zabu (zadr K rfl) (qw zaby 0 rfl) (qw zaby 1 rfl) rfl) (zab6 (zaan D_law_same hr (zahl.g 0 rfl) pass0 (zaaa (zaa1 (zadm K rfl) (qw zaby 1 rfl) (qw zaby 0 rfl) (fun _ _ => rfl)) (zaaa (zaa1 (zadm K rfl) (qw zaby 2 rfl) (qw zaby 0 rfl) (fun _ _ => rfl)) zaab zaat) zaat) zaa8))))) zaab zabi) zaei zaej)))) zaas) (zaaf (zaa4 (zab8 (zab9 (zaa3 (zaaj zaay (gl29.g 0 rfl) z_isinstance zaag (zaaa (qv av29 1 rfl) (zaaa (zaax (v := .ty "list") (gl29.g 5 rfl) z_list zacr rfl zacs zact) zaab)) zaah zaai)) (zabx (zaa3 (zaaj zaay (gl29.g 0 rfl) z_isinstance zaag (zaaa (qv av29 1 rfl) (zaaa (zaax (v := .ty "tuple") (gl29.g 4 rfl) z_tuple zace rfl zacf zacg) zaab)) zaah zaai))))) (zaaf (zaa4 (zaaw zadb (zaaj zaay (gl29.g 0 rfl) z_isinstance zaag (zaaa (qv av29 0 rfl) (zaaa (zaax (v := .ty "list") (gl29.g 5 rfl) z_list zacr rfl zacs zact) zaab)) zaah zaai) (zaaj zaay (gl29.g 0 rfl) z_isinstance zaag (zaaa (qv av29 1 rfl) (zaaa (zaax (v := .ty "list") (gl29.g 5 rfl) z_list zacr rfl zacs zact) zaab)) zaah zaai) (nomark _)) (zaak (zaap zabz)) zaas) (zaaf (zaa4 (zab8 (zab9 (zaaw zadb (zaaj zaay (gl29.g 0 rfl) z_isinstance zaag (zaaa (qv av29 0 rfl) (zaaa (zaax (v := .ty "tuple") (gl29.g 4 rfl) z_tuple zace rfl zacf zacg) zaab)) zaah zaai) (zaaj zaay (gl29.g 0 rfl) z_isinstance zaag (zaaa (qv av29 1 rfl) (zaaa (zaax (v := .ty "tuple") (gl29.g 4 rfl) z_tuple zace rfl zacf zacg) zaab)) zaah zaai) (nomark _)) (zabx (zaaw zadb (zaaj zaau (gl29.g 2 rfl) z_len PySem.boot_len (zaaa (qv av29 0 rfl) zaab zaac) zab0 zab1) (zaaj zaau (gl29.g 2 rfl) z_len PySem.boot_len (zaaa (qv av29 1 rfl) zaab zaac) zab0 zab1) (nomark _))))) (zaak (zaap zabz)) zaas) (zaak (zaap (zaaj (zac1 rfl) (gl29.g 3 rfl) z_all zaeh (zaaa (zabb rfl zac4 (zag8 .list .list (gl29.g 6 rfl) z_zip (zaaa (qv av29 0 rfl) (zaaa (qv av29 1 rfl) zaab zaac) zaac)) (fun _ _ _ _ _ => (zafi K 2 rfl rfl (zaba (zaao (i := 0) zac4.nd rfl (Or.inl (zacj.k 0 rfl)) (Or.inr (zacj.k 0 rfl))) (zaba (zaao (i := 1) zac4.nd rfl (Or.inl (zacj.k 1 rfl)) (Or.inr (zacj.k 1 rfl))) zaco)))) (fun _ _ _ _ _ => zabh) (fun _ _ _ _ _ => (zaan D_law_same hr (zahm.g 0 rfl) pass0 (zaaa (qw zadx 0 rfl) (zaaa (qw zadx 1 rfl) zaab zaac) zaac) zaa8))) zaab zabi) zaei zaej))))) zaas) (zaaf (zaa4 (zaa3 (zaaj zaay (gl29.g 0 rfl) z_isinstance zaag (zaaa (qv av29 1 rfl) (zaaa (zaax (v := .ty "str") (gl29.g 7 rfl) z_str zae4 rfl zae5 zae6) zaab)) zaah zaai)) (zaak (zaap (zabv (zaaj zaay (gl29.g 0 rfl) z_isinstance zaag (zaaa (qv av29 0 rfl) (zaaa (zaax (v := .ty "str") (gl29.g 7 rfl) z_str zae4 rfl zae5 zae6) zaab)) zaah zaai) (zab6 (zabu zacw (qv av29 0 rfl) (qv av29 1 rfl) (nomark _)))))) zaas) (zaak (zaap (zabv (zaaj zaay (gl29.g 0 rfl) z_isinstance zaag (zaaa (qv av29 0 rfl) (zaaa (zaax (v := .ty "int") (gl29.g 9 rfl) z_int zagv rfl zagw zagx) zaab)) zaah zaai) (zabv (zafc (zaaj zaay (gl29.g 0 rfl) z_isinstance zaag (zaaa (qv av29 0 rfl) (zaaa (zaax (v := .ty "bool") (gl29.g 8 rfl) z_bool zafm rfl zafn zafo) zaab)) zaah zaai)) (zab6 (zabu zacw (qv av29 0 rfl) (qv av29 1 rfl) (nomark _)))))))))))), ?_⟩
  (try dsimp only [cxOf])
  cases kk with
  | inl b =>
   dsimp only [kV]
   walk_at "rd"
   rw [decide_eq_true rfl]
   exact q _ (Ch.refl _ _)
  | inr b =>
   dsimp only [kV]
   walk_at "rd"
   rw [decide_eq_true rfl]
   exact q _ (Ch.refl _ _)
 ·have el := Paired.length pr
  refine ⟨_, (Pr.h (zaaf (zaa4 (zaaw zaeu (qv av29 1 rfl) zacy (nomark _)) (zaak (zaap (zabu zaeu (qv av29 0 rfl) zacy (nomark _)))) zaas) (zaaf (zaa4 (zaa3 (zaaj zaay (gl29.g 0 rfl) z_isinstance zaag (zaaa (qv av29 1 rfl) (zaaa (zaax (v := .ty "dict") (gl29.g 1 rfl) z_dict zads rfl zadt zadu) zaab)) zaah zaai)) (zaaf (zaa4 (zab8 (zab9 (zabj (zaa3 (zaaj zaay (gl29.g 0 rfl) z_isinstance zaag (zaaa (qv av29 0 rfl) (zaaa (zaax (v := .ty "dict") (gl29.g 1 rfl) z_dict zads rfl zadt zadu) zaab)) zaah zaai))) (zabx (zaaw zadb (zaaj zaau (gl29.g 2 rfl) z_len PySem.boot_len (zaaa (qv av29 0 rfl) zaab zaac) zab0 zab1) (zaaj zaau (gl29.g 2 rfl) z_len PySem.boot_len (zaaa (qv av29 1 rfl) zaab zaac) zab0 zab1) (nomark _))))) (zaak (zaap zabz)) zaas) (zaak (zaap (zaaj (zac1 rfl) (gl29.g 3 rfl) z_all zaeh (zaaa (zabb rfl zadv (zafe (qv av29 1 rfl)) (fun _ _ _ _ _ => (zaao (i := 0) zadv.nd rfl (Or.inl (zadw.k 0 rfl)) (Or.inr (zadw.k 0 rfl)))) (fun _ _ _ _ _ => zabh) (fun _ _ _ _ _ => (zabv (zabu (zadr K rfl) (qw zaby 0 rfl) (qw zaby 1 rfl) rfl) (zab6 (zaan D_law_same hr (zahl.g 0 rfl) pass0 (zaaa (zaa1 (zac8 K rfl) (qw zaby 1 rfl) (qw zaby 0 rfl) (fun _ _ => rfl)) (zaaa (zaa1 (zac8 K rfl) (qw zaby 2 rfl) (qw zaby 0 rfl) (fun _ _ => rfl)) zaab zaat) zaat) zaa8))))) zaab zabi) zaei zaej)))) zaas) (zaaf (zaa4 (zab8 (zab9 (zaa3 (zaaj zaay (gl29.g 0 rfl) z_isinstance zaag (zaaa (qv av29 1 rfl) (zaaa (zaax (v := .ty "list") (gl29.g 5 rfl) z_list zacr rfl zacs zact) zaab)) zaah zaai)) (zabx (zaa3 (zaaj zaay (gl29.g 0 rfl) z_isinstance zaag (zaaa (qv av29 1 rfl) (zaaa (zaax (v := .ty "tuple") (gl29.g 4 rfl) z_tuple zace rfl zacf zacg) zaab)) zaah zaai))))) (zaaf (zaa4 (zaaw zadb (zaaj zaay (gl29.g 0 rfl) z_isinstance zaag (zaaa (qv av29 0 rfl) (zaaa (zaax (v := .ty "list") (gl29.g 5 rfl) z_list zacr rfl zacs zact) zaab)) zaah zaai) (zaaj zaay (gl29.g 0 rfl) z_isinstance zaag (zaaa (qv av29 1 rfl) (zaaa (zaax (v := .ty "list") (gl29.g 5 rfl) z_list zacr rfl zacs zact) zaab)) zaah zaai) (nomark _)) (zaak (zaap zabz)) zaas) (zaaf (zaa4 (zab8 (zab9 (zaaw zadb (zaaj zaay (gl29.g 0 rfl) z_isinstance zaag (zaaa (qv av29 0 rfl) (zaaa (zaax (v := .ty "tuple") (gl29.g 4 rfl) z_tuple zace rfl zacf zacg) zaab)) zaah zaai) (zaaj zaay (gl29.g 0 rfl) z_isinstance zaag (zaaa (qv av29 1 rfl) (zaaa (zaax (v := .ty "tuple") (gl29.g 4 rfl) z_tuple zace rfl zacf zacg) zaab)) zaah zaai) (nomark _)) (zabx (zaaw zadb (zaaj zaau (gl29.g 2 rfl) z_len PySem.boot_len (zaaa (qv av29 0 rfl) zaab zaac) zab0 zab1) (zaaj zaau (gl29.g 2 rfl) z_len PySem.boot_len (zaaa (qv av29 1 rfl) zaab zaac) zab0 zab1) (nomark _))))) (zaak (zaap zabz)) zaas) (zaak (zaap (zaaj (zac1 rfl) (gl29.g 3 rfl) z_all zaeh (zaaa (zabb rfl zac4 (zag8 .tuple .tuple (gl29.g 6 rfl) z_zip (zaaa (qv av29 0 rfl) (zaaa (qv av29 1 rfl) zaab zaac) zaac)) (fun _ _ _ _ _ => (zafi K 2 rfl rfl (zaba (zaao (i := 0) zac4.nd rfl (Or.inl (zacj.k 0 rfl)) (Or.inr (zacj.k 0 rfl))) (zaba (zaao (i := 1) zac4.nd rfl (Or.inl (zacj.k 1 rfl)) (Or.inr (zacj.k 1 rfl))) zaco)))) (fun _ _ _ _ _ => zabh) (fun _ _ _ _ _ => (zaan D_law_same hr (zahm.g 0 rfl) pass0 (zaaa (qw zadx 0 rfl) (zaaa (qw zadx 1 rfl) zaab zaac) zaac) zaa8))) zaab zabi) zaei zaej))))) zaas) (zaaf (zaa4 (zaa3 (zaaj zaay (gl29.g 0 rfl) z_isinstance zaag (zaaa (qv av29 1 rfl) (zaaa (zaax (v := .ty "str") (gl29.g 7 rfl) z_str zae4 rfl zae5 zae6) zaab)) zaah zaai)) (zaak (zaap (zabv (zaaj zaay (gl29.g 0 rfl) z_isinstance zaag (zaaa (qv av29 0 rfl) (zaaa (zaax (v := .ty "str") (gl29.g 7 rfl) z_str zae4 rfl zae5 zae6) zaab)) zaah zaai) (zab6 (zabu (zans hr.units) (qv av29 0 rfl) (qv av29 1 rfl) (nomark _)))))) zaas) (zaak (zaap (zabv (zaaj zaay (gl29.g 0 rfl) z_isinstance zaag (zaaa (qv av29 0 rfl) (zaaa (zaax (v := .ty "int") (gl29.g 9 rfl) z_int zagv rfl zagw zagx) zaab)) zaah zaai) (zabv (zafc (zaaj zaay (gl29.g 0 rfl) z_isinstance zaag (zaaa (qv av29 0 rfl) (zaaa (zaax (v := .ty "bool") (gl29.g 8 rfl) z_bool zafm rfl zafn zafo) zaab)) zaah zaai)) (zab6 (zabu (zans hr.units) (qv av29 0 rfl) (qv av29 1 rfl) (nomark _)))))))))))), ?_⟩
  (try dsimp only [cxOf])
  walk_at "rd"
  refine iteNn (by rw [el]) ?_
  walk_at "rd"
  refine zaib xs ys (fun j zs σ H' => Ch [] H H' ∧ zs = List.replicate j (V.bl true) ∧ ∃ u v, σ = [u, v]) (by rw [sizeLine_eq]; omega) el ⟨Ch.refl _ _, rfl, _, _, rfl⟩ ?_ ?_ ?_
  ·rintro j zs σ H' hj ⟨c, rfl, _⟩
   exact ⟨by simp, SqT.of (c.get g1 (by simp)), SqT.of (c.get g2 (by simp))⟩
  ·rintro j zs σ H' x z T hx hz ⟨c, rfl, u, v, rfl⟩ hT
   obtain ⟨j1, rfl⟩ := List.getElem?_eq_some_iff.mp hx
   obtain ⟨j2, rfl⟩ := List.getElem?_eq_some_iff.mp hz
   have ee : EqvS n (upd H' T (.tup [xs[j], ys[j]])) xs[j] ys[j] := ⟨Eqv.ch (c.trans (Ch.new hT _)) (zado pr j j1 j2)⟩
   walk_at "rd"
   exact ⟨by rw [← List.replicate_succ'], _, _, rfl⟩
  ·rintro zs σ H' ⟨c, rfl, _⟩
   intro D hD
   refine ⟨D, List.replicate xs.length true, rfl, by rw [zaal, List.map_replicate], ?_⟩
   rw [show (List.replicate xs.length true).all id = true from by simp [List.all_replicate]]
   exact q _ (c.trans (Ch.new hD _))
 ·have el := Paired.length pr
  refine ⟨_, (Pr.h (zaaf (zaa4 (zaaw zaeu (qv av29 1 rfl) zacy (nomark _)) (zaak (zaap (zabu zaeu (qv av29 0 rfl) zacy (nomark _)))) zaas) (zaaf (zaa4 (zaa3 (zaaj zaay (gl29.g 0 rfl) z_isinstance zaag (zaaa (qv av29 1 rfl) (zaaa (zaax (v := .ty "dict") (gl29.g 1 rfl) z_dict zads rfl zadt zadu) zaab)) zaah zaai)) (zaaf (zaa4 (zab8 (zab9 (zabj (zaa3 (zaaj zaay (gl29.g 0 rfl) z_isinstance zaag (zaaa (qv av29 0 rfl) (zaaa (zaax (v := .ty "dict") (gl29.g 1 rfl) z_dict zads rfl zadt zadu) zaab)) zaah zaai))) (zabx (zaaw zadb (zaaj zaau (gl29.g 2 rfl) z_len PySem.boot_len (zaaa (qv av29 0 rfl) zaab zaac) zab0 zab1) (zaaj zaau (gl29.g 2 rfl) z_len PySem.boot_len (zaaa (qv av29 1 rfl) zaab zaac) zab0 zab1) (nomark _))))) (zaak (zaap zabz)) zaas) (zaak (zaap (zaaj (zac1 rfl) (gl29.g 3 rfl) z_all zaeh (zaaa (zabb rfl zadv (zacz (qv av29 1 rfl)) (fun _ _ _ _ _ => (zaao (i := 0) zadv.nd rfl (Or.inl (zadw.k 0 rfl)) (Or.inr (zadw.k 0 rfl)))) (fun _ _ _ _ _ => zabh) (fun _ _ _ _ _ => (zabv (zabu (zadr K rfl) (qw zaby 0 rfl) (qw zaby 1 rfl) rfl) (zab6 (zaan D_law_same hr (zahl.g 0 rfl) pass0 (zaaa (zaa1 (zadm K rfl) (qw zaby 1 rfl) (qw zaby 0 rfl) (fun _ _ => rfl)) (zaaa (zaa1 (zadm K rfl) (qw zaby 2 rfl) (qw zaby 0 rfl) (fun _ _ => rfl)) zaab zaat) zaat) zaa8))))) zaab zabi) zaei zaej)))) zaas) (zaaf (zaa4 (zab8 (zab9 (zaa3 (zaaj zaay (gl29.g 0 rfl) z_isinstance zaag (zaaa (qv av29 1 rfl) (zaaa (zaax (v := .ty "list") (gl29.g 5 rfl) z_list zacr rfl zacs zact) zaab)) zaah zaai)) (zabx (zaa3 (zaaj zaay (gl29.g 0 rfl) z_isinstance zaag (zaaa (qv av29 1 rfl) (zaaa (zaax (v := .ty "tuple") (gl29.g 4 rfl) z_tuple zace rfl zacf zacg) zaab)) zaah zaai))))) (zaaf (zaa4 (zaaw zadb (zaaj zaay (gl29.g 0 rfl) z_isinstance zaag (zaaa (qv av29 0 rfl) (zaaa (zaax (v := .ty "list") (gl29.g 5 rfl) z_list zacr rfl zacs zact) zaab)) zaah zaai) (zaaj zaay (gl29.g 0 rfl) z_isinstance zaag (zaaa (qv av29 1 rfl) (zaaa (zaax (v := .ty "list") (gl29.g 5 rfl) z_list zacr rfl zacs zact) zaab)) zaah zaai) (nomark _)) (zaak (zaap zabz)) zaas) (zaaf (zaa4 (zab8 (zab9 (zaaw zadb (zaaj zaay (gl29.g 0 rfl) z_isinstance zaag (zaaa (qv av29 0 rfl) (zaaa (zaax (v := .ty "tuple") (gl29.g 4 rfl) z_tuple zace rfl zacf zacg) zaab)) zaah zaai) (zaaj zaay (gl29.g 0 rfl) z_isinstance zaag (zaaa (qv av29 1 rfl) (zaaa (zaax (v := .ty "tuple") (gl29.g 4 rfl) z_tuple zace rfl zacf zacg) zaab)) zaah zaai) (nomark _)) (zabx (zaaw zadb (zaaj zaau (gl29.g 2 rfl) z_len PySem.boot_len (zaaa (qv av29 0 rfl) zaab zaac) zab0 zab1) (zaaj zaau (gl29.g 2 rfl) z_len PySem.boot_len (zaaa (qv av29 1 rfl) zaab zaac) zab0 zab1) (nomark _))))) (zaak (zaap zabz)) zaas) (zaak (zaap (zaaj (zac1 rfl) (gl29.g 3 rfl) z_all zaeh (zaaa (zabb rfl zac4 (zag8 .list .list (gl29.g 6 rfl) z_zip (zaaa (qv av29 0 rfl) (zaaa (qv av29 1 rfl) zaab zaac) zaac)) (fun _ _ _ _ _ => (zafi K 2 rfl rfl (zaba (zaao (i := 0) zac4.nd rfl (Or.inl (zacj.k 0 rfl)) (Or.inr (zacj.k 0 rfl))) (zaba (zaao (i := 1) zac4.nd rfl (Or.inl (zacj.k 1 rfl)) (Or.inr (zacj.k 1 rfl))) zaco)))) (fun _ _ _ _ _ => zabh) (fun _ _ _ _ _ => (zaan D_law_same hr (zahm.g 0 rfl) pass0 (zaaa (qw zadx 0 rfl) (zaaa (qw zadx 1 rfl) zaab zaac) zaac) zaa8))) zaab zabi) zaei zaej))))) zaas) (zaaf (zaa4 (zaa3 (zaaj zaay (gl29.g 0 rfl) z_isinstance zaag (zaaa (qv av29 1 rfl) (zaaa (zaax (v := .ty "str") (gl29.g 7 rfl) z_str zae4 rfl zae5 zae6) zaab)) zaah zaai)) (zaak (zaap (zabv (zaaj zaay (gl29.g 0 rfl) z_isinstance zaag (zaaa (qv av29 0 rfl) (zaaa (zaax (v := .ty "str") (gl29.g 7 rfl) z_str zae4 rfl zae5 zae6) zaab)) zaah zaai) (zab6 (zabu zacw (qv av29 0 rfl) (qv av29 1 rfl) (nomark _)))))) zaas) (zaak (zaap (zabv (zaaj zaay (gl29.g 0 rfl) z_isinstance zaag (zaaa (qv av29 0 rfl) (zaaa (zaax (v := .ty "int") (gl29.g 9 rfl) z_int zagv rfl zagw zagx) zaab)) zaah zaai) (zabv (zafc (zaaj zaay (gl29.g 0 rfl) z_isinstance zaag (zaaa (qv av29 0 rfl) (zaaa (zaax (v := .ty "bool") (gl29.g 8 rfl) z_bool zafm rfl zafn zafo) zaab)) zaah zaai)) (zab6 (zabu zacw (qv av29 0 rfl) (qv av29 1 rfl) (nomark _)))))))))))), ?_⟩
  (try dsimp only [cxOf])
  walk_at "rd"
  refine iteNn (by rw [el]) ?_
  walk_at "rd"
  refine zaib xs ys (fun j zs σ H' => Ch [] H H' ∧ zs = List.replicate j (V.bl true) ∧ ∃ u v, σ = [u, v]) (by rw [sizeLine_eq]; omega) el ⟨Ch.refl _ _, rfl, _, _, rfl⟩ ?_ ?_ ?_
  ·rintro j zs σ H' hj ⟨c, rfl, _⟩
   exact ⟨by simp, SqL.of (c.get g1 (by simp)), SqL.of (c.get g2 (by simp))⟩
  ·rintro j zs σ H' x z T hx hz ⟨c, rfl, u, v, rfl⟩ hT
   obtain ⟨j1, rfl⟩ := List.getElem?_eq_some_iff.mp hx
   obtain ⟨j2, rfl⟩ := List.getElem?_eq_some_iff.mp hz
   have ee : EqvS n (upd H' T (.tup [xs[j], ys[j]])) xs[j] ys[j] := ⟨Eqv.ch (c.trans (Ch.new hT _)) (zado pr j j1 j2)⟩
   walk_at "rd"
   exact ⟨by rw [← List.replicate_succ'], _, _, rfl⟩
  ·rintro zs σ H' ⟨c, rfl, _⟩
   intro D hD
   refine ⟨D, List.replicate xs.length true, rfl, by rw [zaal, List.map_replicate], ?_⟩
   rw [show (List.replicate xs.length true).all id = true from by simp [List.all_replicate]]
   exact q _ (c.trans (Ch.new hD _))
end
end

section
theorem XDx.no {H : Hp} : XDx H none := fun d e => by cases e
local macro_rules | `(tactic| walk_at "user") => `(tactic| first | (refine Or.inl (Exists.intro _ (And.intro rfl ?_)); with_reducible assumption) | (refine Or.inr (Exists.intro _ (And.intro rfl ?_)); with_reducible assumption) | exact XDx.no)
theorem Ch.inst {H : Hp} {x dx C : Addr} (hx : H x = none) (hd : H dx = none) (n : dx ≠ x) : Ch [] H (upd (upd H dx (.own x)) x (.ins C dx [])) := (Ch.new hd _).trans (Ch.new (by rw [zaa5 n.symm]; exact hx) _)
theorem Ch.forget {W : List Addr} {H H' : Hp} (c : Ch W H H') (h : ∀ w ∈ W, H w = none) : Ch [] H H' := fun a o e _ => c a o e fun z => by rw [h a z] at e; cases e
theorem Ch.made {H H' : Hp} {x dx C : Addr} (hx : H x = none) (hd : H dx = none) (n : dx ≠ x) (c : Ch [x] (upd (upd H dx (.own x)) x (.ins C dx [])) H') : Ch [] H H' :=
 Ch.forget ((Ch.inst (C := C) hx hd n).wk.trans c) (fun w hw => by rw [List.mem_singleton.mp hw]; exact hx)
structure WP (K : PySem.W.Frag) (CE : Addr) (x : Bool) (c0 c1 c2 c3 c4 c5 c6 c7 c8 c9 c10 : Addr) : Prop where
 xa : XA K CE
 k0 : PySem.W.kitOne K (.ref CE) (.ref c0) = some false
 k1 : PySem.W.kitOne K (.ref CE) (.ref c1) = some false
 k2 : PySem.W.kitOne K (.ref CE) (.ref c2) = some false
 k3 : PySem.W.kitOne K (.ref CE) (.ref c3) = some false
 k4 : PySem.W.kitOne K (.ref CE) (.ref c4) = some false
 k5 : PySem.W.kitOne K (.ref CE) (.ref c5) = some false
 k6 : PySem.W.kitOne K (.ref CE) (.ref c6) = some x
 k7 : PySem.W.kitOne K (.ref CE) (.ref c7) = some (!x)
 k8 : PySem.W.kitOne K (.ref CE) (.ref c8) = some false
 k9 : PySem.W.kitOne K (.ref CE) (.ref c9) = some false
 k10 : PySem.W.kitOne K (.ref CE) (.ref c10) = some false
 kv : PySem.W.kitOne K (.ref CE) (.type "ValueError") = some true
def onlyX (x : Bool) : List Bool := [false, false, false, false, false, false, x, !x, false, false, false]
def kd67 (x : Bool) : Int := if x then 6 else 7
theorem zapl (x : Bool) : atI ((onlyX x).map V.bl) (kd67 x) = some (.bl true) := by cases x <;> rfl
theorem zam8 (x : Bool) : (((onlyX x).take ((onlyX x).map V.bl).length).filter id).map V.bl = [V.bl true] := by cases x <;> rfl
section
variable {P : Program} {w : World} {K : PySem.W.Frag} {mg : Str → Option Value} {base : Heap} {f : Addr} {fd : FuncData} {k : Nat}
theorem zam9 : Nd "NoNet" := by decide +kernel
theorem zai2 : Nd "NoSense" := by decide +kernel
theorem zakx : Nd "NoText" := by decide +kernel
theorem zaky : Nd "NoPack" := by decide +kernel
theorem zaho : Nd "NoTables" := by decide +kernel
theorem zana : Nd "NoRow" := by decide +kernel
theorem zakz : Nd "NoRoom" := by decide +kernel
theorem zak0 : Nd "NoBits" := by decide +kernel
theorem zak1 : Nd "NoWays" := by decide +kernel
theorem zafy : bootBuiltins "ValueError" = some (.type "ValueError") := by decide +kernel
theorem zafz : ("ValueError" : Str) ≠ "__name__" := by decide +kernel
theorem zaf0 : Nd "ValueError" := by decide +kernel
theorem zaij : Nd "Floor" := by decide +kernel
theorem zad0 : Nd "side_wire" := by decide +kernel
theorem zad1 : Nd "pad_wires" := by decide +kernel
theorem zaem : Nd "boxes_at" := by decide +kernel
theorem zaf1 : Nd "FloorError" := by decide +kernel
theorem zagz : Nd "_law_only" := by decide +kernel
theorem av30 : AF (defScope (top 30)) ["_law_caught_here", "_law_kind", "_law_found"] := ⟨by decide +kernel⟩
theorem gl30 : AG (defScope (top 30)) ["isinstance", "NoNet", "NoSense", "NoText", "NoPack", "NoTables", "NoRow", "NoRoom", "OutOfFloor", "NoFloor", "NoBits", "NoWays", "len", "ValueError"] := ⟨by decide +kernel⟩
def zahp : Scope := { kind := PySem.ScopeKind.function, names := [(PySem.Str.ofString ".0", PySem.NameKind.local), (PySem.Str.ofString "_law_one", PySem.NameKind.local)], isGenerator := false, isCoroutine := false, more := [] : PySem.Scope }
theorem zak2 : CompOk zahp (defScope (top 30)) (["_law_one"] : List Str) (["_law_caught_here", "_law_kind", "_law_found"] : List Str) [] (["_law_one"] : List Str) := compOk rfl (by decide +kernel) (by decide +kernel) (by decide +kernel) (by decide +kernel) rfl (by decide +kernel)
theorem zak3 : AK (relab zahp (defScope (top 30))) ["_law_one"] := ⟨by decide +kernel⟩
theorem zak4 : AV (relab zahp (defScope (top 30))) ["_law_one"] := ⟨by decide +kernel⟩
def spOnly (CN CO : Addr) : Sp := fun vs H Q _ => ∃ (ea : Addr) (x : Bool), vs = [.ref ea, .int (kd67 x)] ∧ H ea = some (exO ea (cond x CN CO)) ∧ ∀ H', Ch [] H H' → Q (.bl true) H'
theorem scOnly : FnScope ["_law_caught_here", "_law_kind", "_law_found"] ["_law_caught_here", "_law_kind"] (defScope (top 30)) := ⟨rfl, rfl, rfl, by decide +kernel, rfl, by decide +kernel, by decide +kernel⟩
theorem zapm {CN CO c0 c1 c2 c3 c4 c5 c8 c9 c10 : Addr} (F : Fun K "_law_only" "_law_only" (top 30) f fd) (wp : ∀ x, WP K (cond x CN CO) x c0 c1 c2 c3 c4 c5 CN CO c8 c9 c10) (m_NoText : mg "NoText" = some (.ref c0)) (m_NoSense : mg "NoSense" = some (.ref c1)) (m_NoNet : mg "NoNet" = some (.ref c2)) (m_NoRow : mg "NoRow" = some (.ref c3)) (m_NoTables : mg "NoTables" = some (.ref c4)) (m_NoPack : mg "NoPack" = some (.ref c5)) (m_NoFloor : mg "NoFloor" = some (.ref CN)) (m_OutOfFloor : mg "OutOfFloor" = some (.ref CO)) (m_NoRoom : mg "NoRoom" = some (.ref c8)) (m_NoWays : mg "NoWays" = some (.ref c9)) (m_NoBits : mg "NoBits" = some (.ref c10)) (z_isinstance : mg "isinstance" = none) (z_ValueError : mg "ValueError" = none) (z_len : mg "len" = none) : FnOk P w K mg base CX0 (k + 1) f fd ["_law_caught_here", "_law_kind"] (spOnly CN CO) := by
 have nd := scOnly.nd
 refine F.ok scOnly (fun vs H Q E h => by obtain ⟨ea, x, rfl, _⟩ := h; rfl) (fun cdv A outer s H vs Q E hr h => ?_)
 obtain ⟨ea, x, rfl, he, q⟩ := h
 have wp := wp x
 generalize cond x CN CO = CE at he wp
 refine ⟨_, (Pr.h (zaaf (zaav (i := 2) nd rfl (av30.l 2 rfl) (zabm (zaaa (zaaj zab5 (gl30.g 0 rfl) z_isinstance zaag (zaaa (qv av30 0 rfl) (zaaa (zacd (v := .ref _) (gl30.g 3 rfl) m_NoText rfl zakx) zaab)) zaah zaai) (zaaa (zaaj zab5 (gl30.g 0 rfl) z_isinstance zaag (zaaa (qv av30 0 rfl) (zaaa (zacd (v := .ref _) (gl30.g 2 rfl) m_NoSense rfl zai2) zaab)) zaah zaai) (zaaa (zaaj zab5 (gl30.g 0 rfl) z_isinstance zaag (zaaa (qv av30 0 rfl) (zaaa (zacd (v := .ref _) (gl30.g 1 rfl) m_NoNet rfl zam9) zaab)) zaah zaai) zaab zabt) zabt) zabt))) (zaaf (zaav (i := 2) nd rfl (av30.l 2 rfl) (zaaq zac5 (qv av30 2 rfl) (zabm (zaaa (zaaj zab5 (gl30.g 0 rfl) z_isinstance zaag (zaaa (qv av30 0 rfl) (zaaa (zacd (v := .ref _) (gl30.g 6 rfl) m_NoRow rfl zana) zaab)) zaah zaai) (zaaa (zaaj zab5 (gl30.g 0 rfl) z_isinstance zaag (zaaa (qv av30 0 rfl) (zaaa (zacd (v := .ref _) (gl30.g 5 rfl) m_NoTables rfl zaho) zaab)) zaah zaai) (zaaa (zaaj zab5 (gl30.g 0 rfl) z_isinstance zaag (zaaa (qv av30 0 rfl) (zaaa (zacd (v := .ref _) (gl30.g 4 rfl) m_NoPack rfl zaky) zaab)) zaah zaai) zaab zabt) zabt) zabt)))) (zaaf (zaav (i := 2) nd rfl (av30.l 2 rfl) (zaaq zac5 (qv av30 2 rfl) (zabm (zaaa (zaaj zab5 (gl30.g 0 rfl) z_isinstance zaag (zaaa (qv av30 0 rfl) (zaaa (zacd (v := .ref _) (gl30.g 9 rfl) m_NoFloor rfl zae1) zaab)) zaah zaai) (zaaa (zaaj zab5 (gl30.g 0 rfl) z_isinstance zaag (zaaa (qv av30 0 rfl) (zaaa (zacd (v := .ref _) (gl30.g 8 rfl) m_OutOfFloor rfl zacl) zaab)) zaah zaai) (zaaa (zaaj zab5 (gl30.g 0 rfl) z_isinstance zaag (zaaa (qv av30 0 rfl) (zaaa (zacd (v := .ref _) (gl30.g 7 rfl) m_NoRoom rfl zakz) zaab)) zaah zaai) zaab zabt) zabt) zabt)))) (zaaf (zaav (i := 2) nd rfl (av30.l 2 rfl) (zaaq zac5 (qv av30 2 rfl) (zabm (zaaa (zaaj zab5 (gl30.g 0 rfl) z_isinstance zaag (zaaa (qv av30 0 rfl) (zaaa (zacd (v := .ref _) (gl30.g 11 rfl) m_NoWays rfl zak1) zaab)) zaah zaai) (zaaa (zaaj zab5 (gl30.g 0 rfl) z_isinstance zaag (zaaa (qv av30 0 rfl) (zaaa (zacd (v := .ref _) (gl30.g 10 rfl) m_NoBits rfl zak0) zaab)) zaah zaai) zaab zabt) zabt)))) (zaaf (zaa4 (zab8 (zab9 (zabj (zaa3 (zaaj zab5 (gl30.g 0 rfl) z_isinstance zaag (zaaa (qv av30 0 rfl) (zaaa (zaax (v := .ty "ValueError") (gl30.g 13 rfl) z_ValueError zafy rfl zafz zaf0) zaab)) zaah zaai))) (zabx (zaaw zadb (zaaj zaau (gl30.g 12 rfl) z_len PySem.boot_len (zaaa (zabb rfl zak2 (zacz (qv av30 2 rfl)) (fun _ _ _ _ _ => (zaao (i := 0) zak2.nd rfl (Or.inl (zak3.k 0 rfl)) (Or.inr (zak3.k 0 rfl)))) (fun _ _ _ _ _ => (zafh (zaa3 (qw zak4 0 rfl)))) (fun _ _ _ _ _ => (qw zak4 0 rfl))) zaab zabi) zab0 zab1) zaad (nomark _))))) (zaak (zaap zabz)) zaas) (zaak (zaap (zaa1 zabn (qv av30 2 rfl) (qv av30 1 rfl) (fun _ _ => rfl)))))))))), ?_⟩
 (try dsimp only [cxOf])
 have xa := wp.xa
 have k0 := wp.k0
 have k1 := wp.k1
 have k2 := wp.k2
 have k3 := wp.k3
 have k4 := wp.k4
 have k5 := wp.k5
 have k6 := wp.k6
 have k7 := wp.k7
 have k8 := wp.k8
 have k9 := wp.k9
 have k10 := wp.k10
 have kv := wp.kv
 walk_at "rd"
 rename_i p1 h1 p2 h2 p3 h3 p4 h4 p5 h5 p6 h6 p7 h7
 generalize hH7 : upd _ p7 _ = H7
 have c7 : Ch [] H H7 := by rw [← hH7]; walk_at "ch"
 have g7 : H7 p7 = some (.lst ((onlyX x).map V.bl)) := by rw [← hH7]; exact zaal
 clear hH7 h1 h2 h3 h4 h5 h6 h7
 refine zaeg ((onlyX x).map V.bl) (fun i ys σ H' => H' = H7 ∧ ys = (((onlyX x).take i).filter id).map V.bl ∧ ∃ u, σ = [u]) (by rw [sizeLine_eq]; show 11 < 16777216; decide) ⟨rfl, rfl, _, rfl⟩ ?_ ?_ ?_
 ·rintro i ys σ H' hi ⟨rfl, rfl, _⟩
  refine ⟨?_, SqL.of g7⟩
  rw [List.length_map]
  exact Nat.le_trans (List.length_filter_le _ _) (by rw [List.length_take]; omega)
 ·rintro i ys σ H' z hz ⟨rfl, rfl, u, rfl⟩
  rw [List.getElem?_map] at hz
  obtain ⟨b, hb, rfl⟩ := Option.map_eq_some_iff.mp hz
  rw [List.take_add_one, hb, List.filter_append, List.map_append]
  cases b with
  | true => walk_at "rd"
  | false => walk_at "rd"; exact ⟨by simp, _, rfl⟩
 ·rintro ys σ H' ⟨rfl, rfl, _⟩
  intro D hD
  have g8 : (upd H' D (.lst [V.bl true])) D = some (.lst [V.bl true]) := zaal
  have g9 : (upd H' D (.lst [V.bl true])) p7 = some (.lst ((onlyX x).map V.bl)) := zabe hD g7
  have c8 : Ch [] H (upd H' D (.lst [V.bl true])) := c7.trans (Ch.new hD _)
  rw [zam8]
  have hi := zapl x
  generalize upd H' D (.lst [V.bl true]) = H8 at g8 g9 c8 ⊢
  walk_at "rd"
  exact q _ c8
theorem av31 : AF (defScope (top 31)) ["_law_floor", "_law_which", "_law_thing", "_law_caught_here", "e"] := ⟨by decide +kernel⟩
theorem gl31 : AG (defScope (top 31)) ["Floor", "side_wire", "pad_wires", "boxes_at", "FloorError", "_law_only"] := ⟨by decide +kernel⟩
theorem zart : (defScope (top 31)).names.lookup (Str.ofString "e") = some NameKind.local := by decide +kernel
def StrX (H : Hp) (r c t : Nat) (n : Nat) (v : V) : Prop := match n with
 | 0 => ∃ (p : Addr) (a b d : Int), v = .ref p ∧ H p = some (.tup [.int a, .int b, .int d]) ∧ sizeB a b d = false
 | 1 => ∃ (p bx : Addr) (x y sd tr : Int), v = .ref p ∧ H p = some (.tup [.ref bx, .int sd, .int tr]) ∧ H bx = some (.tup [.int x, .int y]) ∧ sideB r c t x y sd tr = false
 | 2 => ∃ m : Int, v = .int m ∧ belB m (2 * ((r : Int) + c)) = false
 | _ => ∃ (p : Addr) (w : Wi), v = .ref p ∧ H p = some (.tup ((wK w).map kV)) ∧ wireB r c t w = false
structure StrS (H : Hp) (r c t : Nat) (n : Nat) (v : V) : Prop where
 h : StrX H r c t n v
def spCaught (C : Addr) : Sp := fun vs H Q _ => ∃ (fa dx : Addr) (r c t n : Nat) (n' : Int) (v : V), vs = [.ref fa, .int n', v] ∧ H fa = some (.ins C dx (fldsF r c t)) ∧ (r ≤ 10 ∧ c ≤ 10 ∧ t ≤ 8) ∧ StrS H r c t n v ∧ n < 4 ∧ n' = (n : Int) ∧ ∀ H', Ch [] H H' → Q (.bl true) H'
theorem scCaught : FnScope ["_law_floor", "_law_which", "_law_thing", "_law_caught_here", "e"] ["_law_floor", "_law_which", "_law_thing"] (defScope (top 31)) := ⟨rfl, rfl, rfl, by decide +kernel, rfl, by decide +kernel, by decide +kernel⟩
theorem zak5 {C CN CO CF : Addr} (F : Fun K "_law_caught" "_law_caught" (top 31) f fd) (MkXFloor : MakeOk P w K mg base (CXE P w) k C "Floor" ["self", "rows", "columns", "tracks"] (spFloorX C CN)) (DXside_wire : DefOk P w K mg base (CXE P w) (k + 1) "side_wire" ["floor", "box", "side", "track"] (spSideX C CO)) (DXpad_wires : DefOk P w K mg base (CXE P w) (k + 1) "pad_wires" ["floor", "pad"] (spPadWX C CO)) (DXboxes_at : DefOk P w K mg base (CXE P w) (k + 1) "boxes_at" ["floor", "wire"] (spBoxesX C CO))
  (D_law_only : DefOk P w K mg base CX0 (k + 1) "_law_only" ["_law_caught_here", "_law_kind"] (spOnly CN CO)) (m_FloorError : mg "FloorError" = some (.ref CF)) (X_FloorError : XB K CF) (X_NoFloor : XB K CN) (X_OutOfFloor : XB K CO) (sub6 : XSub K CN CF) (sub7 : XSub K CO CF) : FnOk P w K mg base CX0 (k + 2) f fd ["_law_floor", "_law_which", "_law_thing"] (spCaught C) := by
 have nd := scCaught.nd
 refine F.ok scCaught (fun vs H Q E h => by obtain ⟨fa, dx, r, c, t, n, n', v, rfl, _⟩ := h; rfl) (fun cdv A outer s H vs Q E hr h => ?_)
 obtain ⟨fa, dx, r, c, t, n, n', v, rfl, hf, hb, ⟨st⟩, n4, rfl, q⟩ := h
 have hrm := hr
 refine ⟨_, (Pr.h (zaaf (zaav (i := 3) nd rfl (av31.l 3 rfl) zacy) (zabo (zapa (i := 4) (fun _ _ h => h) rfl rfl rfl nd rfl zart (gl31.g 4 rfl) m_FloorError X_FloorError (zac2 (zaj4 (fun _ _ h => h) (zaaw zacw (qv av31 1 rfl) zaad (nomark _)) (zac2 (zad7 (zakb (fun _ _ h => h) MkXFloor hrm (gl31.g 0 rfl) (zaaa (zaa1 zaa9 (qv av31 2 rfl) zaad (fun _ _ => rfl)) (zaaa (zaa1 zaa9 (qv av31 2 rfl) zaad (fun _ _ => rfl)) (zaaa (zaa1 zaa9 (qv av31 2 rfl) zaad (fun _ _ => rfl)) zaab zaat) zaat) zaat) zaij))) (zac2 (zaj4 (fun _ _ h => h) (zaaw zacw (qv av31 1 rfl) zaad (nomark _)) (zac2 (zad7 (zafk (fun _ _ h => h) DXside_wire hr (gl31.g 1 rfl) (zaaa (qv av31 0 rfl) (zaaa (zaa1 zaa9 (qv av31 2 rfl) zaad (fun _ _ => rfl)) (zaaa (zaa1 zaa9 (qv av31 2 rfl) zaad (fun _ _ => rfl)) (zaaa (zaa1 zaa9 (qv av31 2 rfl) zaad (fun _ _ => rfl)) zaab zaat) zaat) zaat) zaac) zad0))) (zac2 (zaj4 (fun _ _ h => h) (zaaw zacw (qv av31 1 rfl) zaad (nomark _)) (zac2 (zad7 (zafk (fun _ _ h => h) DXpad_wires hr (gl31.g 2 rfl) (zaaa (qv av31 0 rfl) (zaaa (qv av31 2 rfl) zaab zaac) zaac) zad1))) (zac2 (zad7 (zafk (fun _ _ h => h) DXboxes_at hr (gl31.g 3 rfl) (zaaa (qv av31 0 rfl) (zaaa (qv av31 2 rfl) zaab zaac) zaac) zaem))))))))) (fun ea => (zaak (zaav (i := 3) nd rfl (av31.l 3 rfl) (qv av31 4 rfl)))) zaf1) (zaak (zaap (zaan D_law_only hr (gl31.g 5 rfl) pass0 (zaaa (qv av31 3 rfl) (zaaa (zaa1 zabn (zabm (zaaa zaad (zaaa zaad (zaaa zaad (zaaa zaad zaab zaae) zaae) zaae) zaae)) (qv av31 1 rfl) (fun _ _ => rfl)) zaab zaat) zaac) zagz)))))), ?_⟩
 (try dsimp only [cxOf])
 walk_at "rd"
 refine zach (fun σ H' => ∃ ea, σ = [some (.ref fa), some (.int (n : Int)), some v, some (.ref ea), none] ∧ Ch [] H H' ∧ H' ea = some (exO ea (cond (decide (n = 0)) CN CO))) ?_ ?_
 ·match n, n4, st with
  | 0, _, st =>
   obtain ⟨p, a, b, d, rfl, hp, hs⟩ := st
   walk_at "rd"
   rename_i x dx hx hdx nx
   refine ⟨fun z => absurd (hs.symm.trans z) (by decide), fun _ H1 c1 => ?_⟩
   have c2 := (Ch.inst (C := C) hx hdx nx).trans c1
   clear c1
   walk_at "rd"
  | 1, _, st =>
   obtain ⟨p, bx, x, y, sd, tr, rfl, hp, hx, hs⟩ := st
   walk_at "rd"
   refine ⟨fun z => absurd (hs.symm.trans z) (by decide), fun _ H1 c1 => ?_⟩
   walk_at "rd"
  | 2, _, st =>
   obtain ⟨m, rfl, hs⟩ := st
   have hs0 := hs
   walk_at "rd"
   refine ⟨fun m' a b e hk => ?_, fun _ H1 c1 => ?_⟩
   ·exfalso
    have := (List.getElem?_eq_some_iff.mp hk).1
    rw [zacn] at this
    rw [e] at hs
    simp [belB] at hs
    omega
   ·walk_at "rd"
  | 3, _, st =>
   obtain ⟨p, wr, rfl, hp, hs⟩ := st
   walk_at "rd"
   refine ⟨fun z => absurd (hs.symm.trans z) (by decide), fun _ H1 c1 => ?_⟩
   walk_at "rd"
 rintro σ H1 ⟨ea, rfl, d1, e1⟩
 have hi : atI [V.int 6, V.int 7, V.int 7, V.int 7] (n : Int) = some (.int (kd67 (decide (n = 0)))) := by
  match n, n4 with
  | 0, _ => rfl
  | 1, _ => rfl
  | 2, _ => rfl
  | 3, _ => rfl
 clear st
 walk_at "rd"
 rename_i p hp H2 c2
 exact q _ ((d1.trans (Ch.new hp _)).trans c2)
end
end

section
section
variable {P : Program} {w : World} {K : PySem.W.Frag} {mg : Str → Option Value} {base : Heap} {f : Addr} {fd : FuncData} {k : Nat}
theorem av32 : AF (defScope (top 32)) ["_law_rows", "_law_columns", "_law_tracks", "_law_found", "_law_r", "_law_c"] := ⟨by decide +kernel⟩
theorem gl32 : AG (defScope (top 32)) ["range"] := ⟨by decide +kernel⟩
def zahq : Scope := { kind := PySem.ScopeKind.function, names := [ (PySem.Str.ofString ".0", PySem.NameKind.local), (PySem.Str.ofString "_law_t", PySem.NameKind.local), (PySem.Str.ofString "_law_c", PySem.NameKind.free), (PySem.Str.ofString "_law_r", PySem.NameKind.free)], isGenerator := false, isCoroutine := false, more := [] : PySem.Scope }
theorem zak6 : CompOk zahq (defScope (top 32)) (["_law_t"] : List Str) (["_law_rows", "_law_columns", "_law_tracks", "_law_found", "_law_r", "_law_c"] : List Str) [4, 5] (["_law_t", "_law_r", "_law_c"] : List Str) := compOk rfl (by decide +kernel) (by decide +kernel) (by decide +kernel) (by decide +kernel) rfl (by decide +kernel)
theorem zak7 : AK (relab zahq (defScope (top 32))) ["_law_t"] := ⟨by decide +kernel⟩
theorem zahr : AV (relab zahq (defScope (top 32))) ["_law_t", "_law_r", "_law_c"] := ⟨by decide +kernel⟩
def zahs : Scope := { kind := PySem.ScopeKind.function, names := [ (PySem.Str.ofString ".0", PySem.NameKind.local), (PySem.Str.ofString "_law_t", PySem.NameKind.local), (PySem.Str.ofString "_law_c", PySem.NameKind.free), (PySem.Str.ofString "_law_r", PySem.NameKind.free)], isGenerator := false, isCoroutine := false, more := [] : PySem.Scope }
theorem zak8 : CompOk zahs (defScope (top 32)) (["_law_t"] : List Str) (["_law_rows", "_law_columns", "_law_tracks", "_law_found", "_law_r", "_law_c"] : List Str) [4, 5] (["_law_t", "_law_r", "_law_c"] : List Str) := compOk rfl (by decide +kernel) (by decide +kernel) (by decide +kernel) (by decide +kernel) rfl (by decide +kernel)
theorem zak9 : AK (relab zahs (defScope (top 32))) ["_law_t"] := ⟨by decide +kernel⟩
theorem zaht : AV (relab zahs (defScope (top 32))) ["_law_t", "_law_r", "_law_c"] := ⟨by decide +kernel⟩
def spDueW : Sp := fun vs H Q _ => ∃ (r c t : Nat), vs = [.int (r : Int), .int (c : Int), .int (t : Int)] ∧ (r ≤ 10 ∧ c ≤ 10 ∧ t ≤ 8) ∧ ∀ l ys H', Ch [] H H' → H l = none → H' l = some (.lst ys) → LW H' (wiresK r c t) ys → Q (.ref l) H'
theorem scDueW : FnScope ["_law_rows", "_law_columns", "_law_tracks", "_law_found", "_law_r", "_law_c"] ["_law_rows", "_law_columns", "_law_tracks"] (defScope (top 32)) := ⟨rfl, rfl, rfl, by decide +kernel, rfl, by decide +kernel, by decide +kernel⟩
theorem zapn (F : Fun K "_law_due_wires" "_law_due_wires" (top 32) f fd) (z_range : mg "range" = none) : FnOk P w K mg base CX0 (k + 1) f fd ["_law_rows", "_law_columns", "_law_tracks"] spDueW := by
 have nd := scDueW.nd
 refine F.ok scDueW (fun vs H Q E h => by obtain ⟨r, c, t, rfl, _⟩ := h; rfl) (fun cdv A outer s H vs Q E hr h => ?_)
 obtain ⟨r, c, t, rfl, ⟨r1, c1, t1⟩, q⟩ := h
 refine ⟨_, (Pr.h (zaaf (zaav (i := 3) nd rfl (av32.l 3 rfl) (zabm zaab)) (zaaf (zabk PassesOwn.never rfl (zaaz (gl32.g 0 rfl) z_range (zaaa (qv av32 0 rfl) zaab zaac)) (zaao (i := 4) nd rfl (av32.l 4 rfl)) (zaak (zabk PassesOwn.never rfl (zac7 (gl32.g 0 rfl) z_range (zaaa (zab3 zab2 zaad) (zaaa (qv av32 1 rfl) zaab zaac) zaa6)) (zaao (i := 5) nd rfl (av32.l 5 rfl)) (zaak (zaav (i := 3) nd rfl (av32.l 3 rfl) (zaaq zac5 (qv av32 3 rfl) (zabb rfl zak6 (zaaz (gl32.g 0 rfl) z_range (zaaa (qv av32 2 rfl) zaab zaac)) (fun _ _ _ _ _ => (zaao (i := 0) zak6.nd rfl (Or.inl (zak7.k 0 rfl)) (Or.inr (zak7.k 0 rfl)))) (fun _ _ _ _ _ => zabh) (fun _ _ _ _ _ => (zaam (zaaa zaa2 (zaaa (qw zahr 1 rfl) (zaaa (qw zahr 2 rfl) (zaaa (qw zahr 0 rfl) zaab zaac) zaac) zaac) zaae)))))))))) (zaaf (zabk PassesOwn.never rfl (zac7 (gl32.g 0 rfl) z_range (zaaa (zab3 zab2 zaad) (zaaa (qv av32 0 rfl) zaab zaac) zaa6)) (zaao (i := 4) nd rfl (av32.l 4 rfl)) (zaak (zabk PassesOwn.never rfl (zaaz (gl32.g 0 rfl) z_range (zaaa (qv av32 1 rfl) zaab zaac)) (zaao (i := 5) nd rfl (av32.l 5 rfl)) (zaak (zaav (i := 3) nd rfl (av32.l 3 rfl) (zaaq zac5 (qv av32 3 rfl) (zabb rfl zak8 (zaaz (gl32.g 0 rfl) z_range (zaaa (qv av32 2 rfl) zaab zaac)) (fun _ _ _ _ _ => (zaao (i := 0) zak8.nd rfl (Or.inl (zak9.k 0 rfl)) (Or.inr (zak9.k 0 rfl)))) (fun _ _ _ _ _ => zabh) (fun _ _ _ _ _ => (zaam (zaaa zaa2 (zaaa (qw zaht 1 rfl) (zaaa (qw zaht 2 rfl) (zaaa (qw zaht 0 rfl) zaab zaac) zaac) zaac) zaae)))))))))) (zaak (zaap (qv av32 3 rfl))))))), ?_⟩
 (try dsimp only [cxOf])
 walk_at "rd"
 rename_i D hD
 refine zabf (fun m σ H' => ∃ l u1 u2 ys, σ = [some (.int (r : Int)), some (.int (c : Int)), some (.int (t : Int)), some (.ref l), u1, u2] ∧ Ch [] H H' ∧ H l = none ∧ H' l = some (.lst ys) ∧ LW H' (([] : List Wr) ++ fl (lo !true) m (fun i => colsK true c t i)) ys) ⟨_, _, _, _, rfl, Ch.new hD _, hD, zaal, .nil⟩ ?_ ?_
 ·rintro m σ H6 hm ⟨l6, u1, u2, ys6, rfl, c6, f6, g6, lw6⟩
  have hm' : m ≤ 10 := by omega
  have kl6 : (([] : List Wr) ++ fl (lo !true) m (fun i => colsK true c t i)).length ≤ 1848 := by
   have := zafq (lo := lo !true) (g := fun i => colsK true c t i) (b := 88) (fun x => zafs true c1 t1 x) m
   rw [List.length_append]
   rw [List.length_nil]
   omega
  rw [zac3, ← List.append_assoc]
  generalize ([] : List Wr) ++ fl (lo !true) m (fun i => colsK true c t i) = ks6 at lw6 kl6 ⊢
  walk_at "rd"
  refine zabf (fun m2 σ H' => ∃ l u2 ys, σ = [some (.int (r : Int)), some (.int (c : Int)), some (.int (t : Int)), some (.ref l), some (.int (lo (!true) + (m : Int))), u2] ∧ Ch [] H H' ∧ H l = none ∧ H' l = some (.lst ys) ∧ LW H' (ks6 ++ fl (lo true) m2 (fun j => trk true t (lo (!true) + (m : Int)) j)) ys) ⟨_, _, _, rfl, c6, f6, g6, by rw [show fl (lo true) 0 (fun j => trk true t (lo (!true) + (m : Int)) j) = [] from rfl, List.append_nil]; exact lw6⟩ ?_ ?_
  ·rintro m2 σ H7 hm2 ⟨l7, u2, ys7, rfl, c7, f7, g7, lw7⟩
   have hm2' : m2 ≤ 10 := by omega
   have kl7 : ys7.length ≤ 1928 := by
    have := zafq (lo := lo true) (g := fun j => trk true t (lo (!true) + (m : Int)) j) (b := 8) (fun x => by rw [zaek]; exact t1) m2
    rw [lw7.len, List.length_append]
    omega
   rw [zac3, ← List.append_assoc]
   generalize ks6 ++ fl (lo true) m2 (fun j => trk true t (lo (!true) + (m : Int)) j) = ks7 at lw7 ⊢
   walk_at "rd"
   refine zabg (fun m3 zs σ H' => Ch [] H7 H' ∧ LW H' (rng 0 m3 fun k => wK (true, lo (!true) + (m : Int), lo true + (m2 : Int), k)) zs ∧ ∃ u, σ = [u, some (.int (lo (!true) + (m : Int))), some (.int (lo true + (m2 : Int)))]) (by rw [sizeLine_eq]; omega) ⟨Ch.refl _ _, .nil, _, rfl⟩ ?_ ?_ ?_
   ·rintro m3 zs σ H' hm ⟨_, lz, _⟩
    rw [lz.len, zabc]; exact Nat.le_refl _
   ·rintro m3 zs σ H' hm ⟨c2, lz, u, rfl⟩
    walk_at "rd"
    rename_i p hp
    refine ⟨?_, _, rfl⟩
    rw [zabp]
    exact lz.snoc (k := wK (true, lo (!true) + (m : Int), lo true + (m2 : Int), 0 + (m3 : Int))) hp
   rintro zs σ H8 ⟨d8, lz, _⟩
   intro E hE
   rw [Int.toNat_natCast] at lz
   have lzl := lz.len
   rw [zabc] at lzl
   have gE : upd H8 E (.lst zs) E = some (.lst zs) := zaal
   have g8 : upd H8 E (.lst zs) l7 = some (.lst ys7) := zabe hE (d8.get g7 (by simp))
   have lt : ys7.length + zs.length ≤ sizeLine := by rw [sizeLine_eq]; omega
   have d9 := d8.trans (Ch.new hE (.lst zs))
   have lw9 := (lw7.ch d9).app (lz.ch (Ch.new hE (.lst zs)))
   have c9 := c7.trans d9
   clear lw7 lz d8 hE g7 c7
   walk_at "rd"
   rename_i p hp
   exact ⟨chFree c9 hp, zaal, lw9.ch (Ch.new hp _)⟩
  ·rintro σ H7 ⟨l7, u2, ys7, rfl, c7, f7, g7, lw7⟩
   refine ⟨_, _, _, _, rfl, c7, f7, g7, ?_⟩
   rw [show ((c : Int) - -1).toNat = c + 1 from by omega] at lw7
   exact lw7
 rintro σ H1 ⟨l1, u1, u2, ys1, rfl, c3, f3, g3, lw3⟩
 have kl := zaft true r1 c1 t1
 have lw3 : LW H1 (halfK true r c t) ys1 := lw3
 walk_at "rd"
 refine zabf (fun m σ H' => ∃ l u1 u2 ys, σ = [some (.int (r : Int)), some (.int (c : Int)), some (.int (t : Int)), some (.ref l), u1, u2] ∧ Ch [] H H' ∧ H l = none ∧ H' l = some (.lst ys) ∧ LW H' (halfK true r c t ++ fl (lo !false) m (fun i => colsK false c t i)) ys) ⟨_, _, _, _, rfl, c3, f3, g3, by rw [show fl (lo !false) 0 (fun i => colsK false c t i) = [] from rfl, List.append_nil]; exact lw3⟩ ?_ ?_
 ·rintro m σ H6 hm ⟨l6, u1, u2, ys6, rfl, c6, f6, g6, lw6⟩
  have hm' : m ≤ 10 := by omega
  have kl6 : (halfK true r c t ++ fl (lo !false) m (fun i => colsK false c t i)).length ≤ 1848 := by
   have := zafq (lo := lo !false) (g := fun i => colsK false c t i) (b := 88) (fun x => zafs false c1 t1 x) m
   rw [List.length_append]
   skip
   omega
  rw [zac3, ← List.append_assoc]
  generalize halfK true r c t ++ fl (lo !false) m (fun i => colsK false c t i) = ks6 at lw6 kl6 ⊢
  walk_at "rd"
  refine zabf (fun m2 σ H' => ∃ l u2 ys, σ = [some (.int (r : Int)), some (.int (c : Int)), some (.int (t : Int)), some (.ref l), some (.int (lo (!false) + (m : Int))), u2] ∧ Ch [] H H' ∧ H l = none ∧ H' l = some (.lst ys) ∧ LW H' (ks6 ++ fl (lo false) m2 (fun j => trk false t (lo (!false) + (m : Int)) j)) ys) ⟨_, _, _, rfl, c6, f6, g6, by rw [show fl (lo false) 0 (fun j => trk false t (lo (!false) + (m : Int)) j) = [] from rfl, List.append_nil]; exact lw6⟩ ?_ ?_
  ·rintro m2 σ H7 hm2 ⟨l7, u2, ys7, rfl, c7, f7, g7, lw7⟩
   have hm2' : m2 ≤ 10 := by omega
   have kl7 : ys7.length ≤ 1928 := by
    have := zafq (lo := lo false) (g := fun j => trk false t (lo (!false) + (m : Int)) j) (b := 8) (fun x => by rw [zaek]; exact t1) m2
    rw [lw7.len, List.length_append]
    omega
   rw [zac3, ← List.append_assoc]
   generalize ks6 ++ fl (lo false) m2 (fun j => trk false t (lo (!false) + (m : Int)) j) = ks7 at lw7 ⊢
   walk_at "rd"
   refine zabg (fun m3 zs σ H' => Ch [] H7 H' ∧ LW H' (rng 0 m3 fun k => wK (false, lo (!false) + (m : Int), lo false + (m2 : Int), k)) zs ∧ ∃ u, σ = [u, some (.int (lo (!false) + (m : Int))), some (.int (lo false + (m2 : Int)))]) (by rw [sizeLine_eq]; omega) ⟨Ch.refl _ _, .nil, _, rfl⟩ ?_ ?_ ?_
   ·rintro m3 zs σ H' hm ⟨_, lz, _⟩
    rw [lz.len, zabc]; exact Nat.le_refl _
   ·rintro m3 zs σ H' hm ⟨c2, lz, u, rfl⟩
    walk_at "rd"
    rename_i p hp
    refine ⟨?_, _, rfl⟩
    rw [zabp]
    exact lz.snoc (k := wK (false, lo (!false) + (m : Int), lo false + (m2 : Int), 0 + (m3 : Int))) hp
   rintro zs σ H8 ⟨d8, lz, _⟩
   intro E hE
   rw [Int.toNat_natCast] at lz
   have lzl := lz.len
   rw [zabc] at lzl
   have gE : upd H8 E (.lst zs) E = some (.lst zs) := zaal
   have g8 : upd H8 E (.lst zs) l7 = some (.lst ys7) := zabe hE (d8.get g7 (by simp))
   have lt : ys7.length + zs.length ≤ sizeLine := by rw [sizeLine_eq]; omega
   have d9 := d8.trans (Ch.new hE (.lst zs))
   have lw9 := (lw7.ch d9).app (lz.ch (Ch.new hE (.lst zs)))
   have c9 := c7.trans d9
   clear lw7 lz d8 hE g7 c7
   walk_at "rd"
   rename_i p hp
   exact ⟨chFree c9 hp, zaal, lw9.ch (Ch.new hp _)⟩
  ·rintro σ H7 ⟨l7, u2, ys7, rfl, c7, f7, g7, lw7⟩
   refine ⟨_, _, _, _, rfl, c7, f7, g7, ?_⟩
   rw [show ((c : Int)).toNat = c + 0 from by omega] at lw7
   exact lw7
 rintro σ H2 ⟨l2, u1, u2, ys2, rfl, c4, f4, g4, lw4⟩
 rw [show ((r : Int) - -1).toNat = r + 1 from by omega] at lw4
 walk_at "rd"
 exact q _ _ _ c4 f4 g4 lw4
end
end

section
theorem zanb {r c : Nat} {a b : Int} (h : SpotP r c a b) : (if b < 0 ∨ b = (c : Int) then (true, a, (if (c : Int) - 1 < b then (c : Int) - 1 else b)) else (false, (if (r : Int) - 1 < a then (r : Int) - 1 else a), b)) = ((belB a r, less1 a r, less1 b c) : Bool × Int × Int) := by
 unfold less1
 rcases h with ⟨h0, h1, h | h⟩ | ⟨h | h, h0, h1⟩
 ·have e : belB a r = true := by simp [belB]; omega
  rw [if_pos (by omega), e, if_neg (by omega), if_neg (by omega), if_neg (by omega)]
 ·have e : belB a r = true := by simp [belB]; omega
  rw [if_pos (by omega), e, if_pos (by omega), if_neg (by omega), if_pos (by omega), h]
 ·have e : belB a r = false := by simp [belB]; omega
  rw [if_neg (by omega), e, if_neg (by omega), if_neg (by omega), if_neg (by omega)]
 ·have e : belB a r = false := by simp [belB]; omega
  rw [if_neg (by omega), e, if_pos (by omega), if_pos (by omega), if_neg (by omega), h]
section
variable {P : Program} {w : World} {K : PySem.W.Frag} {mg : Str → Option Value} {base : Heap} {f : Addr} {fd : FuncData} {k : Nat}
theorem zanx : bootBuiltins "min" = some (.builtin "min") := by decide +kernel
theorem zany : ("min" : Str) ≠ "__name__" := by decide +kernel
theorem zanz : Nd "min" := by decide +kernel
theorem av34 : AF (defScope (top 34)) ["_law_box", "_law_side", "_law_track", "_law_r", "_law_c"] := ⟨by decide +kernel⟩
def spDueS : Sp := fun vs H Q _ => ∃ (bx : Addr) (x y sd tr : Int), vs = [.ref bx, .int sd, .int tr] ∧ H bx = some (.tup [.int x, .int y]) ∧ 0 ≤ sd ∧ sd < 4 ∧ ∀ p H', Ch [] H H' → H' p = some (.tup ((wK (sideW x y sd tr)).map kV)) → Q (.ref p) H'
theorem scDueS : FnScope ["_law_box", "_law_side", "_law_track", "_law_r", "_law_c"] ["_law_box", "_law_side", "_law_track"] (defScope (top 34)) := ⟨rfl, rfl, rfl, by decide +kernel, rfl, by decide +kernel, by decide +kernel⟩
theorem zapo (F : Fun K "_law_due_side" "_law_due_side" (top 34) f fd) : FnOk P w K mg base CX0 (k + 1) f fd ["_law_box", "_law_side", "_law_track"] spDueS := by
 have nd := scDueS.nd
 refine F.ok scDueS (fun vs H Q E h => by obtain ⟨bx, x, y, sd, tr, rfl, _⟩ := h; rfl) (fun cdv A outer s H vs Q E hr h => ?_)
 obtain ⟨bx, x, y, sd, tr, rfl, hb, s0, s1, q⟩ := h
 refine ⟨_, (Pr.h (zaaf (zaff (qv av34 0 rfl) (zaee rfl (zaba (zaao (i := 3) nd rfl (av34.l 3 rfl)) (zaba (zaao (i := 4) nd rfl (av34.l 4 rfl)) zaco)))) (zaak (zaap (zaa1 zabn (zabm (zaaa (zaam (zaaa zaa2 (zaaa (qv av34 3 rfl) (zaaa (zaaq zack (qv av34 4 rfl) zaad) (zaaa (qv av34 2 rfl) zaab zaac) zaa7) zaac) zaae)) (zaaa (zaam (zaaa zaa2 (zaaa (qv av34 3 rfl) (zaaa (qv av34 4 rfl) (zaaa (qv av34 2 rfl) zaab zaac) zaac) zaac) zaae)) (zaaa (zaam (zaaa zaa2 (zaaa (zaaq zack (qv av34 3 rfl) zaad) (zaaa (qv av34 4 rfl) (zaaa (qv av34 2 rfl) zaab zaac) zaac) zaa7) zaae)) (zaaa (zaam (zaaa zaa2 (zaaa (qv av34 3 rfl) (zaaa (qv av34 4 rfl) (zaaa (qv av34 2 rfl) zaab zaac) zaac) zaac) zaae)) zaab zaar) zaar) zaar) zaar)) (qv av34 1 rfl) (fun _ _ => rfl)))))), ?_⟩
 (try dsimp only [cxOf])
 walk_at "rd"
 rename_i a1 h1 a2 h2 a3 h3 a4 h4 a5 h5
 have : sd = 0 ∨ sd = 1 ∨ sd = 2 ∨ sd = 3 := by omega
 have cc := ((((Ch.new (W := []) h1 (.tup ((wK (sideW x y 0 tr)).map kV))).trans (Ch.new h2 (.tup ((wK (sideW x y 1 tr)).map kV)))).trans (Ch.new h3 (.tup ((wK (sideW x y 2 tr)).map kV)))).trans (Ch.new h4 (.tup ((wK (sideW x y 3 tr)).map kV)))).trans (Ch.new h5 (.lst [.ref a1, .ref a2, .ref a3, .ref a4]))
 rcases this with rfl | rfl | rfl | rfl
 ·refine Atx.of (v := .ref a1) rfl (q a1 _ cc (zabe h5 (zabe h4 (zabe h3 (zabe h2 zaal)))))
 ·refine Atx.of (v := .ref a2) rfl (q a2 _ cc (zabe h5 (zabe h4 (zabe h3 zaal))))
 ·refine Atx.of (v := .ref a3) rfl (q a3 _ cc (zabe h5 (zabe h4 zaal)))
 ·refine Atx.of (v := .ref a4) rfl (q a4 _ cc (zabe h5 zaal))
theorem av33 : AF (defScope (top 33)) ["_law_rows", "_law_columns", "_law_wire", "_law_word", "_law_r", "_law_c", "_law_t", "_law_ends"] := ⟨by decide +kernel⟩
theorem gl33 : AG (defScope (top 33)) ["int"] := ⟨by decide +kernel⟩
def zahu : Scope := { kind := PySem.ScopeKind.function, names := [ (PySem.Str.ofString ".0", PySem.NameKind.local), (PySem.Str.ofString "_law_end", PySem.NameKind.local), (PySem.Str.ofString "_law_columns", PySem.NameKind.free), (PySem.Str.ofString "_law_rows", PySem.NameKind.free)], isGenerator := false, isCoroutine := false, more := [] : PySem.Scope }
theorem zala : CompOk zahu (defScope (top 33)) (["_law_end"] : List Str) (["_law_rows", "_law_columns", "_law_wire", "_law_word", "_law_r", "_law_c", "_law_t", "_law_ends"] : List Str) [0, 1] (["_law_end", "_law_rows", "_law_columns"] : List Str) := compOk rfl (by decide +kernel) (by decide +kernel) (by decide +kernel) (by decide +kernel) rfl (by decide +kernel)
theorem zalb : AK (relab zahu (defScope (top 33))) ["_law_end"] := ⟨by decide +kernel⟩
theorem zadh : AV (relab zahu (defScope (top 33))) ["_law_end", "_law_rows", "_law_columns"] := ⟨by decide +kernel⟩
def spDueB : Sp := fun vs H Q _ => ∃ (r c : Int) (wa : Addr) (wr : Wi), vs = [.int r, .int c, .ref wa] ∧ H wa = some (.tup ((wK wr).map kV)) ∧ ∀ l ys H', Ch [] H H' → H l = none → H' l = some (.lst ys) → LW H' ((boxesW r c wr).map bxK) ys → Q (.ref l) H'
theorem scDueB : FnScope ["_law_rows", "_law_columns", "_law_wire", "_law_word", "_law_r", "_law_c", "_law_t", "_law_ends"] ["_law_rows", "_law_columns", "_law_wire"] (defScope (top 33)) := ⟨rfl, rfl, rfl, by decide +kernel, rfl, by decide +kernel, by decide +kernel⟩
theorem zapp (F : Fun K "_law_due_boxes" "_law_due_boxes" (top 33) f fd) (z_int : mg "int" = none) : FnOk P w K mg base CX0 (k + 1) f fd ["_law_rows", "_law_columns", "_law_wire"] spDueB := by
 have nd := scDueB.nd
 refine F.ok scDueB (fun vs H Q E h => by obtain ⟨r, c, wa, wr, rfl, _⟩ := h; rfl) (fun cdv A outer s H vs Q E hr h => ?_)
 obtain ⟨r, c, wa, ⟨hv, i, j, tr⟩, rfl, hw, q⟩ := h
 refine ⟨_, (Pr.h (zaaf (zaff (qv av33 2 rfl) (zaee rfl (zaba (zaao (i := 3) nd rfl (av33.l 3 rfl)) (zaba (zaao (i := 4) nd rfl (av33.l 4 rfl)) (zaba (zaao (i := 5) nd rfl (av33.l 5 rfl)) (zaba (zaao (i := 6) nd rfl (av33.l 6 rfl)) zaco)))))) (zaaf (zaav (i := 7) nd rfl (av33.l 7 rfl) (zabm (zaaa (zaam (zaaa (qv av33 4 rfl) (zaaa (qv av33 5 rfl) zaab zaac) zaac)) (zaaa (zaa1 zabn (zabm (zaaa (zaam (zaaa (qv av33 4 rfl) (zaaa (zaaq zabw (qv av33 5 rfl) zaad) zaab zaa7) zaac)) (zaaa (zaam (zaaa (zaaq zabw (qv av33 4 rfl) zaad) (zaaa (qv av33 5 rfl) zaab zaac) zaa7)) zaab zaar) zaar)) (zaix zajf (gl33.g 0 rfl) z_int zagv (zaaa (zabu zacw (qv av33 3 rfl) zaa2 (nomark _)) zaab zaiw) zagw zagx) (fun _ _ => rfl)) zaab zaat) zaar))) (zaak (zaap (zabb rfl zala (zacz (qv av33 7 rfl)) (fun _ _ _ _ _ => (zaao (i := 0) zala.nd rfl (Or.inl (zalb.k 0 rfl)) (Or.inr (zalb.k 0 rfl)))) (fun _ _ _ _ _ => (zafh (zab8 (zafd (zaaw zag6 zaad (zaa1 (zac8 K rfl) (qw zadh 0 rfl) zaad (fun _ _ => rfl)) (nomark _)) (zafd (zaaw zag5 (zaa1 (zac8 K rfl) (qw zadh 0 rfl) zaad (fun _ _ => rfl)) (qw zadh 1 rfl) (nomark _)) (zafd (zaaw zag6 zaad (zaa1 (zac8 K rfl) (qw zadh 0 rfl) zaad (fun _ _ => rfl)) (nomark _)) (zah8 (zaaw zag5 (zaa1 (zac8 K rfl) (qw zadh 0 rfl) zaad (fun _ _ => rfl)) (qw zadh 2 rfl) (nomark _))))))))) (fun _ _ _ _ _ => (qw zadh 0 rfl)))))))), ?_⟩
 (try dsimp only [cxOf])
 have hw : H wa = some (.tup [.str (wd hv), .int i, .int j, .int tr]) := hw
 walk_at "rd"
 rename_i a1 h1 a2 h2 a3 h3 a4 h4
 obtain ⟨H4, e4⟩ : ∃ H4, upd (upd (upd (upd H a1 (.tup [.int i, .int j])) a2 (.tup [.int i, .int (j + 1)])) a3 (.tup [.int (i + 1), .int j])) a4 (.lst [.ref a2, .ref a3]) = H4 := ⟨_, rfl⟩
 have c4 : Ch [] H H4 := by rw [← e4]; exact (((Ch.new h1 _).trans (Ch.new h2 _)).trans (Ch.new h3 _)).trans (Ch.new h4 _)
 obtain ⟨a, b, ee⟩ : ∃ a b : Int, (if hv then (i, j + 1) else (i + 1, j)) = (a, b) := ⟨_, _, rfl⟩
 have q : ∀ l ys H', Ch [] H H' → H l = none → H' l = some (.lst ys) → LW H' (([(i, j), (a, b)].filter (inB r c)).map bxK) ys → Q (.ref l) H' := by
  rw [← ee]
  exact q
 have g1 : H4 a1 = some (.tup [.int i, .int j]) := by rw [← e4]; exact zabe h4 (zabe h3 (zabe h2 zaal))
 have g2 : H4 (cond hv a2 a3) = some (.tup [.int a, .int b]) := by
  cases hv with
  | true => cases ee; rw [← e4]; exact zabe h4 (zabe h3 zaal)
  | false => cases ee; rw [← e4]; exact zabe h4 zaal
 have e4' := e4
 clear ee
 refine Atx.of (v := .ref (cond hv a2 a3)) (by cases hv <;> rfl) ?_
 generalize cond hv a2 a3 = az at g2 ⊢
 rw [show upd (upd (upd (upd H a1 (.tup [.int i, .int j])) a2 (.tup [.int i, (fun i j => V.int (i + j)) j 1])) a3 (.tup [(fun i j => V.int (i + j)) i 1, .int j])) a4 (.lst [.ref a2, .ref a3]) = H4 from e4]
 clear e4 e4' h1 h2 h3 h4
 walk_at "rd"
 rename_i p hp
 have g5 : upd H4 p (.lst [.ref a1, .ref az]) p = some (.lst [.ref a1, .ref az]) := zaal
 have c5 := c4.trans (Ch.new hp (.lst [.ref a1, .ref az]))
 have g1 := zabe hp g1 (u := .lst [.ref a1, .ref az])
 have g2 := zabe hp g2 (u := .lst [.ref a1, .ref az])
 obtain ⟨H5, e5⟩ : ∃ H5, upd H4 p (.lst [.ref a1, .ref az]) = H5 := ⟨_, rfl⟩
 rw [e5] at g5 c5 g1 g2 ⊢
 clear e5 hp
 refine zaeg [.ref a1, .ref az] (fun n ys σ H' => H' = H5 ∧ LW H' ((([(i, j), (a, b)].take n).filter (inB r c)).map bxK) ys ∧ ∃ u, σ = [u, some (.int r), some (.int c)]) (by rw [sizeLine_eq]; show 2 < 16777216; decide) ⟨rfl, .nil, _, rfl⟩ ?_ ?_ ?_
 ·rintro n ys σ H' hi ⟨rfl, lw, _⟩
  refine ⟨?_, SqL.of g5⟩
  rw [lw.len, List.length_map]
  exact Nat.le_trans (List.length_filter_le _ _) (by rw [List.length_take]; omega)
 ·rintro n ys σ H' z hz ⟨rfl, lw, u, rfl⟩
  obtain ⟨pz, e, rfl, hp, hb⟩ : ∃ (pz : Addr) (b' : Int × Int), z = .ref pz ∧ H' pz = some (.tup [.int b'.1, .int b'.2]) ∧ [(i, j), (a, b)][n]? = some b' := by
   match n, hz with
   | 0, hz => cases hz; exact ⟨a1, (i, j), rfl, g1, rfl⟩
   | 1, hz => cases hz; exact ⟨az, (a, b), rfl, g2, rfl⟩
   | n + 2, hz => cases hz
  rw [List.take_add_one, hb, List.filter_append, List.map_append]
  have yes : inB r c e = true → LW H' (((([(i, j), (a, b)].take n).filter (inB r c)).map bxK) ++ (((some e).toList.filter (inB r c)).map bxK)) (ys ++ [.ref pz]) := fun hB => by
   rw [show ((some e).toList.filter (inB r c)) = [e] from by simp [hB]]
   exact lw.app (.one hp)
  have no : inB r c e = false → LW H' (((([(i, j), (a, b)].take n).filter (inB r c)).map bxK) ++ (((some e).toList.filter (inB r c)).map bxK)) ys := fun hB => by
   rw [show ((some e).toList.filter (inB r c)) = [] from by simp [hB]]
   rw [List.map_nil, List.append_nil]
   exact lw
  have un : inB r c e = ((decide (0 ≤ e.1) && decide (e.1 < r)) && (decide (0 ≤ e.2) && decide (e.2 < c))) := rfl
  clear lw hb hz g1 g2 g5
  walk_at "rd"
  cases d1 : decide (0 ≤ e.1) with
  | false => exact ⟨rfl, no (by rw [un, d1]; rfl), _, rfl⟩
  | true =>
   walk_at "rd"
   cases d2 : decide (e.1 < r) with
   | false => exact ⟨rfl, no (by rw [un, d1, d2]; rfl), _, rfl⟩
   | true =>
    walk_at "rd"
    cases d3 : decide (0 ≤ e.2) with
    | false => exact ⟨rfl, no (by rw [un, d1, d2, d3]; rfl), _, rfl⟩
    | true =>
     walk_at "rd"
     cases d4 : decide (e.2 < c) with
     | false => exact ⟨rfl, no (by rw [un, d1, d2, d3, d4]; rfl), _, rfl⟩
     | true =>
      have yes := yes (by rw [un, d1, d2, d3, d4]; rfl)
      walk_at "rd"
 ·rintro ys σ H' ⟨rfl, lw, _⟩
  intro D hD
  exact q D ys _ (c5.trans (Ch.new hD _)) (chFree c5 hD) zaal (lw.ch (Ch.new hD _))
theorem av35 : AF (defScope (top 35)) ["_law_rows", "_law_columns", "_law_spots"] := ⟨by decide +kernel⟩
theorem gl35 : AG (defScope (top 35)) ["range"] := ⟨by decide +kernel⟩
def zahv : Scope := { kind := PySem.ScopeKind.function, names := [(PySem.Str.ofString ".0", PySem.NameKind.local), (PySem.Str.ofString "_law_r", PySem.NameKind.local)], isGenerator := false, isCoroutine := false, more := [] : PySem.Scope }
theorem zalc : CompOk zahv (defScope (top 35)) (["_law_r"] : List Str) (["_law_rows", "_law_columns", "_law_spots"] : List Str) [] (["_law_r"] : List Str) := compOk rfl (by decide +kernel) (by decide +kernel) (by decide +kernel) (by decide +kernel) rfl (by decide +kernel)
theorem zald : AK (relab zahv (defScope (top 35))) ["_law_r"] := ⟨by decide +kernel⟩
theorem zapq : AV (relab zahv (defScope (top 35))) ["_law_r"] := ⟨by decide +kernel⟩
def zahw : Scope := { kind := PySem.ScopeKind.function, names := [(PySem.Str.ofString ".0", PySem.NameKind.local), (PySem.Str.ofString "_law_c", PySem.NameKind.local)], isGenerator := false, isCoroutine := false, more := [] : PySem.Scope }
theorem zale : CompOk zahw (defScope (top 35)) (["_law_c"] : List Str) (["_law_rows", "_law_columns", "_law_spots"] : List Str) [] (["_law_c"] : List Str) := compOk rfl (by decide +kernel) (by decide +kernel) (by decide +kernel) (by decide +kernel) rfl (by decide +kernel)
theorem zalf : AK (relab zahw (defScope (top 35))) ["_law_c"] := ⟨by decide +kernel⟩
theorem zapr : AV (relab zahw (defScope (top 35))) ["_law_c"] := ⟨by decide +kernel⟩
def zahx : Scope := { kind := PySem.ScopeKind.function, names := [ (PySem.Str.ofString ".0", PySem.NameKind.local), (PySem.Str.ofString "_law_r", PySem.NameKind.local), (PySem.Str.ofString "_law_columns", PySem.NameKind.free)], isGenerator := false, isCoroutine := false, more := [] : PySem.Scope }
theorem zalg : CompOk zahx (defScope (top 35)) (["_law_r"] : List Str) (["_law_rows", "_law_columns", "_law_spots"] : List Str) [1] (["_law_r", "_law_columns"] : List Str) := compOk rfl (by decide +kernel) (by decide +kernel) (by decide +kernel) (by decide +kernel) rfl (by decide +kernel)
theorem zalh : AK (relab zahx (defScope (top 35))) ["_law_r"] := ⟨by decide +kernel⟩
theorem zali : AV (relab zahx (defScope (top 35))) ["_law_r", "_law_columns"] := ⟨by decide +kernel⟩
def zahy : Scope := { kind := PySem.ScopeKind.function, names := [ (PySem.Str.ofString ".0", PySem.NameKind.local), (PySem.Str.ofString "_law_c", PySem.NameKind.local), (PySem.Str.ofString "_law_rows", PySem.NameKind.free)], isGenerator := false, isCoroutine := false, more := [] : PySem.Scope }
theorem zalj : CompOk zahy (defScope (top 35)) (["_law_c"] : List Str) (["_law_rows", "_law_columns", "_law_spots"] : List Str) [0] (["_law_c", "_law_rows"] : List Str) := compOk rfl (by decide +kernel) (by decide +kernel) (by decide +kernel) (by decide +kernel) rfl (by decide +kernel)
theorem zalk : AK (relab zahy (defScope (top 35))) ["_law_c"] := ⟨by decide +kernel⟩
theorem zall : AV (relab zahy (defScope (top 35))) ["_law_c", "_law_rows"] := ⟨by decide +kernel⟩
def spDueP : Sp := fun vs H Q _ => ∃ (r c : Nat), vs = [.int (r : Int), .int (c : Int)] ∧ (r ≤ 10 ∧ c ≤ 10) ∧ ∀ l ys H', Ch [] H H' → H l = none → H' l = some (.lst ys) → LW H' (padsK r c) ys → Q (.ref l) H'
theorem scDueP : FnScope ["_law_rows", "_law_columns", "_law_spots"] ["_law_rows", "_law_columns"] (defScope (top 35)) := ⟨rfl, rfl, rfl, by decide +kernel, rfl, by decide +kernel, by decide +kernel⟩
theorem zaps (F : Fun K "_law_due_pads" "_law_due_pads" (top 35) f fd) (z_range : mg "range" = none) : FnOk P w K mg base CX0 (k + 1) f fd ["_law_rows", "_law_columns"] spDueP := by
 have nd := scDueP.nd
 refine F.ok scDueP (fun vs H Q E h => by obtain ⟨r, c, rfl, _⟩ := h; rfl) (fun cdv A outer s H vs Q E hr h => ?_)
 obtain ⟨r, c, rfl, ⟨r1, c1⟩, q⟩ := h
 refine ⟨_, (Pr.h (zaaf (zaav (i := 2) nd rfl (av35.l 2 rfl) (zaaq zac5 (zabb rfl zalc (zaaz (gl35.g 0 rfl) z_range (zaaa (qv av35 0 rfl) zaab zaac)) (fun _ _ _ _ _ => (zaao (i := 0) zalc.nd rfl (Or.inl (zald.k 0 rfl)) (Or.inr (zald.k 0 rfl)))) (fun _ _ _ _ _ => zabh) (fun _ _ _ _ _ => (zaam (zaaa (qw zapq 0 rfl) (zaaa (zab3 zab2 zaad) zaab zaa6) zaac)))) (zabb rfl zale (zaaz (gl35.g 0 rfl) z_range (zaaa (qv av35 1 rfl) zaab zaac)) (fun _ _ _ _ _ => (zaao (i := 0) zale.nd rfl (Or.inl (zalf.k 0 rfl)) (Or.inr (zalf.k 0 rfl)))) (fun _ _ _ _ _ => zabh) (fun _ _ _ _ _ => (zaam (zaaa (zab3 zab2 zaad) (zaaa (qw zapr 0 rfl) zaab zaac) zaa6)))))) (zaak (zaap (zaaq zac5 (zaaq zac5 (qv av35 2 rfl) (zabb rfl zalg (zaaz (gl35.g 0 rfl) z_range (zaaa (qv av35 0 rfl) zaab zaac)) (fun _ _ _ _ _ => (zaao (i := 0) zalg.nd rfl (Or.inl (zalh.k 0 rfl)) (Or.inr (zalh.k 0 rfl)))) (fun _ _ _ _ _ => zabh) (fun _ _ _ _ _ => (zaam (zaaa (qw zali 0 rfl) (zaaa (qw zali 1 rfl) zaab zaac) zaac))))) (zabb rfl zalj (zaaz (gl35.g 0 rfl) z_range (zaaa (qv av35 1 rfl) zaab zaac)) (fun _ _ _ _ _ => (zaao (i := 0) zalj.nd rfl (Or.inl (zalk.k 0 rfl)) (Or.inr (zalk.k 0 rfl)))) (fun _ _ _ _ _ => zabh) (fun _ _ _ _ _ => (zaam (zaaa (qw zall 1 rfl) (zaaa (qw zall 0 rfl) zaab zaac) zaac))))))))), ?_⟩
 (try dsimp only [cxOf])
 walk_at "rd"
 refine zabg (fun m zs σ H' => Ch [] H H' ∧ LW H' (rng 0 m (fun i => [.inl i, .inl (-1)])) zs ∧ ∃ u, σ = [u]) (by rw [sizeLine_eq]; omega) ⟨Ch.refl _ _, .nil, _, rfl⟩ ?_ ?_ ?_
 ·rintro m zs σ H' hm ⟨_, lw, _⟩
  rw [lw.len, zabc]; exact Nat.le_refl _
 ·rintro m zs σ H' hm ⟨c2, lw, u, rfl⟩
  walk_at "rd"
  rename_i p hp
  refine ⟨?_, _, rfl⟩
  rw [zabp]
  exact lw.snoc (k := [.inl (0 + (m : Int)), .inl (-1)]) hp
 rintro z1 σ H1 ⟨d1, l1, _⟩
 intro D1 hD1
 rw [Int.toNat_natCast] at l1
 have n1 := l1.len
 rw [zabc] at n1
 have l1 := l1.ch (Ch.new hD1 (.lst z1))
 have d1 := d1.trans (Ch.new hD1 (.lst z1))
 have g1 : upd H1 D1 (.lst z1) D1 = some (.lst z1) := zaal
 obtain ⟨H2, e2⟩ : ∃ H', upd H1 D1 (.lst z1) = H' := ⟨_, rfl⟩
 rw [e2] at l1 d1 g1 ⊢
 clear e2 hD1
 walk_at "rd"
 refine zabg (fun m zs σ H' => Ch [] H2 H' ∧ LW H' (rng 0 m (fun i => [.inl (-1), .inl i])) zs ∧ ∃ u, σ = [u]) (by rw [sizeLine_eq]; omega) ⟨Ch.refl _ _, .nil, _, rfl⟩ ?_ ?_ ?_
 ·rintro m zs σ H' hm ⟨_, lw, _⟩
  rw [lw.len, zabc]; exact Nat.le_refl _
 ·rintro m zs σ H' hm ⟨c2, lw, u, rfl⟩
  walk_at "rd"
  rename_i p hp
  refine ⟨?_, _, rfl⟩
  rw [zabp]
  exact lw.snoc (k := [.inl (-1), .inl (0 + (m : Int))]) hp
 rintro z2 σ H2' ⟨e2, k2, _⟩
 intro E2 hE2
 rw [Int.toNat_natCast] at k2
 have n2 := k2.len
 rw [zabc] at n2
 have f2 := e2.trans (Ch.new hE2 (.lst z2))
 have g2 : upd H2' E2 (.lst z2) E2 = some (.lst z2) := zaal
 have h2 : upd H2' E2 (.lst z2) D1 = some (.lst z1) := f2.get g1 (by simp)
 have l2 := (l1.ch f2).app (k2.ch (Ch.new hE2 (.lst z2)))
 have d2 := d1.trans f2
 have lt2 : (z1).length + z2.length ≤ sizeLine := by rw [sizeLine_eq]; (try simp only [List.length_append]); omega
 obtain ⟨G2, eG2⟩ : ∃ H', upd H2' E2 (.lst z2) = H' := ⟨_, rfl⟩
 rw [eG2] at g2 h2 l2 d2 ⊢
 clear eG2 f2 e2 k2 hE2 l1 d1 g1
 walk_at "rd"
 rename_i D2 hD2
 have l2 := l2.ch (Ch.new hD2 (.lst (z1 ++ z2)))
 have fr2 := chFree d2 hD2
 have d2 := d2.trans (Ch.new hD2 (.lst (z1 ++ z2)))
 have g2 : upd G2 D2 (.lst (z1 ++ z2)) D2 = some (.lst (z1 ++ z2)) := zaal
 obtain ⟨H3, e2⟩ : ∃ H', upd G2 D2 (.lst (z1 ++ z2)) = H' := ⟨_, rfl⟩
 rw [e2] at l2 d2 g2 ⊢
 clear e2 hD2 h2 lt2
 walk_at "rd"
 refine zabg (fun m zs σ H' => Ch [] H3 H' ∧ LW H' (rng 0 m (fun i => [.inl i, .inl (c : Int)])) zs ∧ ∃ u, σ = [u, some (.int (c : Int))]) (by rw [sizeLine_eq]; omega) ⟨Ch.refl _ _, .nil, _, rfl⟩ ?_ ?_ ?_
 ·rintro m zs σ H' hm ⟨_, lw, _⟩
  rw [lw.len, zabc]; exact Nat.le_refl _
 ·rintro m zs σ H' hm ⟨c2, lw, u, rfl⟩
  walk_at "rd"
  rename_i p hp
  refine ⟨?_, _, rfl⟩
  rw [zabp]
  exact lw.snoc (k := [.inl (0 + (m : Int)), .inl (c : Int)]) hp
 rintro z3 σ H3' ⟨e3, k3, _⟩
 intro E3 hE3
 rw [Int.toNat_natCast] at k3
 have n3 := k3.len
 rw [zabc] at n3
 have f3 := e3.trans (Ch.new hE3 (.lst z3))
 have g3 : upd H3' E3 (.lst z3) E3 = some (.lst z3) := zaal
 have h3 : upd H3' E3 (.lst z3) D2 = some (.lst (z1 ++ z2)) := f3.get g2 (by simp)
 have l3 := (l2.ch f3).app (k3.ch (Ch.new hE3 (.lst z3)))
 have d3 := d2.trans f3
 have lt3 : ((z1 ++ z2)).length + z3.length ≤ sizeLine := by rw [sizeLine_eq]; (try simp only [List.length_append]); omega
 obtain ⟨G3, eG3⟩ : ∃ H', upd H3' E3 (.lst z3) = H' := ⟨_, rfl⟩
 rw [eG3] at g3 h3 l3 d3 ⊢
 clear eG3 f3 e3 k3 hE3 l2 d2 g2
 walk_at "rd"
 rename_i D3 hD3
 have l3 := l3.ch (Ch.new hD3 (.lst ((z1 ++ z2) ++ z3)))
 have fr3 := chFree d3 hD3
 have d3 := d3.trans (Ch.new hD3 (.lst ((z1 ++ z2) ++ z3)))
 have g3 : upd G3 D3 (.lst ((z1 ++ z2) ++ z3)) D3 = some (.lst ((z1 ++ z2) ++ z3)) := zaal
 obtain ⟨H4, e3⟩ : ∃ H', upd G3 D3 (.lst ((z1 ++ z2) ++ z3)) = H' := ⟨_, rfl⟩
 rw [e3] at l3 d3 g3 ⊢
 clear e3 hD3 h3 lt3
 walk_at "rd"
 refine zabg (fun m zs σ H' => Ch [] H4 H' ∧ LW H' (rng 0 m (fun i => [.inl (r : Int), .inl i])) zs ∧ ∃ u, σ = [u, some (.int (r : Int))]) (by rw [sizeLine_eq]; omega) ⟨Ch.refl _ _, .nil, _, rfl⟩ ?_ ?_ ?_
 ·rintro m zs σ H' hm ⟨_, lw, _⟩
  rw [lw.len, zabc]; exact Nat.le_refl _
 ·rintro m zs σ H' hm ⟨c2, lw, u, rfl⟩
  walk_at "rd"
  rename_i p hp
  refine ⟨?_, _, rfl⟩
  rw [zabp]
  exact lw.snoc (k := [.inl (r : Int), .inl (0 + (m : Int))]) hp
 rintro z4 σ H4' ⟨e4, k4, _⟩
 intro E4 hE4
 rw [Int.toNat_natCast] at k4
 have n4 := k4.len
 rw [zabc] at n4
 have f4 := e4.trans (Ch.new hE4 (.lst z4))
 have g4 : upd H4' E4 (.lst z4) E4 = some (.lst z4) := zaal
 have h4 : upd H4' E4 (.lst z4) D3 = some (.lst (z1 ++ z2 ++ z3)) := f4.get g3 (by simp)
 have l4 := (l3.ch f4).app (k4.ch (Ch.new hE4 (.lst z4)))
 have d4 := d3.trans f4
 have lt4 : ((z1 ++ z2 ++ z3)).length + z4.length ≤ sizeLine := by rw [sizeLine_eq]; (try simp only [List.length_append]); omega
 obtain ⟨G4, eG4⟩ : ∃ H', upd H4' E4 (.lst z4) = H' := ⟨_, rfl⟩
 rw [eG4] at g4 h4 l4 d4 ⊢
 clear eG4 f4 e4 k4 hE4 l3 d3 g3
 walk_at "rd"
 rename_i D4 hD4
 have l4 := l4.ch (Ch.new hD4 (.lst ((z1 ++ z2 ++ z3) ++ z4)))
 have fr4 := chFree d4 hD4
 have d4 := d4.trans (Ch.new hD4 (.lst ((z1 ++ z2 ++ z3) ++ z4)))
 have g4 : upd G4 D4 (.lst ((z1 ++ z2 ++ z3) ++ z4)) D4 = some (.lst ((z1 ++ z2 ++ z3) ++ z4)) := zaal
 obtain ⟨H5, e4⟩ : ∃ H', upd G4 D4 (.lst ((z1 ++ z2 ++ z3) ++ z4)) = H' := ⟨_, rfl⟩
 rw [e4] at l4 d4 g4 ⊢
 clear e4 hD4 h4 lt4
 exact q D4 _ _ d4 fr4 g4 l4
theorem av36 : AF (defScope (top 36)) ["_law_rows", "_law_columns", "_law_spot", "_law_tracks", "_law_r", "_law_c"] := ⟨by decide +kernel⟩
theorem gl36 : AG (defScope (top 36)) ["range"] := ⟨by decide +kernel⟩
def zaf2 : Scope := { kind := PySem.ScopeKind.function, names := [ (PySem.Str.ofString ".0", PySem.NameKind.local), (PySem.Str.ofString "_law_t", PySem.NameKind.local), (PySem.Str.ofString "min", PySem.NameKind.globalImplicit), (PySem.Str.ofString "_law_c", PySem.NameKind.free), (PySem.Str.ofString "_law_columns", PySem.NameKind.free), (PySem.Str.ofString "_law_r", PySem.NameKind.free)], isGenerator := false, isCoroutine := false, more := [] : PySem.Scope }
theorem zalm : CompOk zaf2 (defScope (top 36)) (["_law_t"] : List Str) (["_law_rows", "_law_columns", "_law_spot", "_law_tracks", "_law_r", "_law_c"] : List Str) [4, 5, 1] (["_law_t", "_law_r", "_law_c", "_law_columns"] : List Str) := compOk rfl (by decide +kernel) (by decide +kernel) (by decide +kernel) (by decide +kernel) rfl (by decide +kernel)
theorem zaln : AK (relab zaf2 (defScope (top 36))) ["_law_t"] := ⟨by decide +kernel⟩
theorem zaf3 : AV (relab zaf2 (defScope (top 36))) ["_law_t", "_law_r", "_law_c", "_law_columns"] := ⟨by decide +kernel⟩
theorem zapt : AG (relab zaf2 (defScope (top 36))) ["min"] := ⟨by decide +kernel⟩
def zaf4 : Scope := { kind := PySem.ScopeKind.function, names := [ (PySem.Str.ofString ".0", PySem.NameKind.local), (PySem.Str.ofString "_law_t", PySem.NameKind.local), (PySem.Str.ofString "min", PySem.NameKind.globalImplicit), (PySem.Str.ofString "_law_c", PySem.NameKind.free), (PySem.Str.ofString "_law_r", PySem.NameKind.free), (PySem.Str.ofString "_law_rows", PySem.NameKind.free)], isGenerator := false, isCoroutine := false, more := [] : PySem.Scope }
theorem zalo : CompOk zaf4 (defScope (top 36)) (["_law_t"] : List Str) (["_law_rows", "_law_columns", "_law_spot", "_law_tracks", "_law_r", "_law_c"] : List Str) [4, 0, 5] (["_law_t", "_law_r", "_law_rows", "_law_c"] : List Str) := compOk rfl (by decide +kernel) (by decide +kernel) (by decide +kernel) (by decide +kernel) rfl (by decide +kernel)
theorem zalp : AK (relab zaf4 (defScope (top 36))) ["_law_t"] := ⟨by decide +kernel⟩
theorem zaf5 : AV (relab zaf4 (defScope (top 36))) ["_law_t", "_law_r", "_law_rows", "_law_c"] := ⟨by decide +kernel⟩
theorem zapu : AG (relab zaf4 (defScope (top 36))) ["min"] := ⟨by decide +kernel⟩
def spDueQ : Sp := fun vs H Q _ => ∃ (r c t : Nat) (sa : Addr) (a b : Int), vs = [.int (r : Int), .int (c : Int), .ref sa, .int (t : Int)] ∧ H sa = some (.tup ((bxK (a, b)).map kV)) ∧ SpotP r c a b ∧ t ≤ 8 ∧ ∀ l ys H', Ch [] H H' → H l = none → H' l = some (.lst ys) → LW H' (padK r c t a b) ys → Q (.ref l) H'
theorem scDueQ : FnScope ["_law_rows", "_law_columns", "_law_spot", "_law_tracks", "_law_r", "_law_c"] ["_law_rows", "_law_columns", "_law_spot", "_law_tracks"] (defScope (top 36)) := ⟨rfl, rfl, rfl, by decide +kernel, rfl, by decide +kernel, by decide +kernel⟩
theorem zapv (F : Fun K "_law_due_pad" "_law_due_pad" (top 36) f fd) (z_range : mg "range" = none) (z_min : mg "min" = none) : FnOk P w K mg base CX0 (k + 1) f fd ["_law_rows", "_law_columns", "_law_spot", "_law_tracks"] spDueQ := by
 have nd := scDueQ.nd
 refine F.ok scDueQ (fun vs H Q E h => by obtain ⟨r, c, t, sa, a, b, rfl, _⟩ := h; rfl) (fun cdv A outer s H vs Q E hr h => ?_)
 obtain ⟨r, c, t, sa, a, b, rfl, hs, sp, t1, q⟩ := h
 refine ⟨_, (Pr.h (zaaf (zaff (qv av36 2 rfl) (zaee rfl (zaba (zaao (i := 4) nd rfl (av36.l 4 rfl)) (zaba (zaao (i := 5) nd rfl (av36.l 5 rfl)) zaco)))) (zaaf (zaa4 (zab8 (zab9 (zaaw zag5 (qv av36 5 rfl) zaad (nomark _)) (zabx (zaaw zacw (qv av36 5 rfl) (qv av36 1 rfl) (nomark _))))) (zaak (zaap (zabb rfl zalm (zaaz (gl36.g 0 rfl) z_range (zaaa (qv av36 3 rfl) zaab zaac)) (fun _ _ _ _ _ => (zaao (i := 0) zalm.nd rfl (Or.inl (zaln.k 0 rfl)) (Or.inr (zaln.k 0 rfl)))) (fun _ _ _ _ _ => zabh) (fun _ _ _ _ _ => (zaam (zaaa zaa2 (zaaa (qw zaf3 1 rfl) (zaaa (zaaj (zage rfl) (zapt.g 0 rfl) z_min zanx (zaaa (qw zaf3 2 rfl) (zaaa (zaaq zack (qw zaf3 3 rfl) zaad) zaab zaa7) zaac) zany zanz) (zaaa (qw zaf3 0 rfl) zaab zaac) zabt) zaac) zaae)))))) zaas) (zaak (zaap (zabb rfl zalo (zaaz (gl36.g 0 rfl) z_range (zaaa (qv av36 3 rfl) zaab zaac)) (fun _ _ _ _ _ => (zaao (i := 0) zalo.nd rfl (Or.inl (zalp.k 0 rfl)) (Or.inr (zalp.k 0 rfl)))) (fun _ _ _ _ _ => zabh) (fun _ _ _ _ _ => (zaam (zaaa zaa2 (zaaa (zaaj (zage rfl) (zapu.g 0 rfl) z_min zanx (zaaa (qw zaf5 1 rfl) (zaaa (zaaq zack (qw zaf5 2 rfl) zaad) zaab zaa7) zaac) zany zanz) (zaaa (qw zaf5 3 rfl) (zaaa (qw zaf5 0 rfl) zaab zaac) zaac) zabt) zaae))))))))), ?_⟩
 (try dsimp only [cxOf])
 have hs : H sa = some (.tup [.int a, .int b]) := hs
 have sd := zanb sp
 have cmp : ∀ (hv : Bool) (x y : Int), (hv, x, y) = (belB a r, less1 a r, less1 b c) → padK r c t a b = rng 0 t fun k => wK (hv, x, y, k) := fun hv x y e => by
  cases e
  rfl
 walk_at "rd"
 cases h0 : decide (b < 0) with
 | true =>
  rw [if_pos (Or.inl (of_decide_eq_true h0))] at sd
  walk_at "rd"
  refine zabg (fun m zs σ H' => Ch [] H H' ∧ LW H' (rng 0 m fun k => wK (true, a, (if (c : Int) - 1 < b then (c : Int) - 1 else b), k)) zs ∧ ∃ u, σ = [u, some (.int a), some (.int b), some (.int (c : Int))]) (by rw [sizeLine_eq]; omega) ⟨Ch.refl _ _, .nil, _, rfl⟩ ?_ ?_ ?_
  ·rintro m zs σ H' hm ⟨_, lw, _⟩
   rw [lw.len, zabc]; exact Nat.le_refl _
  ·rintro m zs σ H' hm ⟨c2, lw, u, rfl⟩
   walk_at "rd"
   rename_i p hp
   refine ⟨?_, _, rfl⟩
   rw [zabp]
   exact lw.snoc (k := wK (true, a, (if (c : Int) - 1 < b then (c : Int) - 1 else b), 0 + (m : Int))) hp
  rintro zs σ H1 ⟨d1, lz, _⟩
  intro D hD
  rw [Int.toNat_natCast, ← cmp _ _ _ sd] at lz
  exact q D zs _ (d1.trans (Ch.new hD _)) (chFree d1 hD) zaal (lz.ch (Ch.new hD _))
 | false =>
  walk_at "rd"
  have h0 : ¬ b < 0 := of_decide_eq_false h0
  cases h1 : decide (V.int b = V.int (c : Int)) with
  | true =>
   have h1 : b = (c : Int) := by simpa using h1
   rw [if_pos (Or.inr h1)] at sd
   walk_at "rd"
   refine zabg (fun m zs σ H' => Ch [] H H' ∧ LW H' (rng 0 m fun k => wK (true, a, (if (c : Int) - 1 < b then (c : Int) - 1 else b), k)) zs ∧ ∃ u, σ = [u, some (.int a), some (.int b), some (.int (c : Int))]) (by rw [sizeLine_eq]; omega) ⟨Ch.refl _ _, .nil, _, rfl⟩ ?_ ?_ ?_
   ·rintro m zs σ H' hm ⟨_, lw, _⟩
    rw [lw.len, zabc]; exact Nat.le_refl _
   ·rintro m zs σ H' hm ⟨c2, lw, u, rfl⟩
    walk_at "rd"
    rename_i p hp
    refine ⟨?_, _, rfl⟩
    rw [zabp]
    exact lw.snoc (k := wK (true, a, (if (c : Int) - 1 < b then (c : Int) - 1 else b), 0 + (m : Int))) hp
   rintro zs σ H1 ⟨d1, lz, _⟩
   intro D hD
   rw [Int.toNat_natCast, ← cmp _ _ _ sd] at lz
   exact q D zs _ (d1.trans (Ch.new hD _)) (chFree d1 hD) zaal (lz.ch (Ch.new hD _))
  | false =>
   have h1 : ¬ b = (c : Int) := by simpa using h1
   rw [if_neg (by omega)] at sd
   walk_at "rd"
   refine zabg (fun m zs σ H' => Ch [] H H' ∧ LW H' (rng 0 m fun k => wK (false, (if (r : Int) - 1 < a then (r : Int) - 1 else a), b, k)) zs ∧ ∃ u, σ = [u, some (.int a), some (.int (r : Int)), some (.int b)]) (by rw [sizeLine_eq]; omega) ⟨Ch.refl _ _, .nil, _, rfl⟩ ?_ ?_ ?_
   ·rintro m zs σ H' hm ⟨_, lw, _⟩
    rw [lw.len, zabc]; exact Nat.le_refl _
   ·rintro m zs σ H' hm ⟨c2, lw, u, rfl⟩
    walk_at "rd"
    rename_i p hp
    refine ⟨?_, _, rfl⟩
    rw [zabp]
    exact lw.snoc (k := wK (false, (if (r : Int) - 1 < a then (r : Int) - 1 else a), b, 0 + (m : Int))) hp
   rintro zs σ H1 ⟨d1, lz, _⟩
   intro D hD
   rw [Int.toNat_natCast, ← cmp _ _ _ sd] at lz
   exact q D zs _ (d1.trans (Ch.new hD _)) (chFree d1 hD) zaal (lz.ch (Ch.new hD _))
end
end

section
theorem zapw {a b d : Int} (h : a < 1 ∨ 10 < a ∨ b < 1 ∨ 10 < b ∨ d < 1 ∨ 8 < d) : sizeB a b d = false := by
 refine Bool.eq_false_iff.mpr fun z => ?_
 simp [sizeB, szB] at z
 omega
theorem zapx {r c t x y sd tr : Int} (h : x < 0 ∨ r ≤ x ∨ y < 0 ∨ c ≤ y ∨ sd < 0 ∨ 4 ≤ sd ∨ tr < 0 ∨ t ≤ tr) : sideB r c t x y sd tr = false := by
 refine Bool.eq_false_iff.mpr fun z => ?_
 simp [sideB, belB] at z
 omega
theorem zapy {r c t i j tr : Int} {hv : Bool} (h : i < lo (!hv) ∨ r ≤ i ∨ j < lo hv ∨ c ≤ j ∨ tr < 0 ∨ t ≤ tr) : wireB r c t (hv, i, j, tr) = false := by
 refine Bool.eq_false_iff.mpr fun z => ?_
 simp [wireB, belB] at z
 omega
theorem StrX.ch {H H' : Hp} (cc : Ch [] H H') {r c t n : Nat} {v : V} (h : StrX H r c t n v) : StrX H' r c t n v := by
 match n, h with
 | 0, ⟨p, a, b, d, e, g, no⟩ => exact ⟨p, a, b, d, e, cc.get g (by simp), no⟩
 | 1, ⟨p, bx, x, y, sd, tr, e, g, g2, no⟩ => exact ⟨p, bx, x, y, sd, tr, e, cc.get g (by simp), cc.get g2 (by simp), no⟩
 | 2, h => exact h
 | n + 3, ⟨p, w, e, g, no⟩ => exact ⟨p, w, e, cc.get g (by simp), no⟩
structure SI (r c t n : Nat) (H : Hp) (l : Addr) (vs : List V) : Prop where
 g : H l = some (.lst vs)
 s : ∀ v ∈ vs, StrX H r c t n v
theorem SI.ch {H H' : Hp} (cc : Ch [] H H') {r c t n : Nat} {l : Addr} {vs : List V} (h : SI r c t n H l vs) : SI r c t n H' l vs := ⟨cc.get h.g (by simp), fun v hv => (h.s v hv).ch cc⟩
theorem s0 {r c t : Nat} {H : Hp} {p : Addr} {a b d : Int} (h : H p = some (.tup [.int a, .int b, .int d])) (no : a < 1 ∨ 10 < a ∨ b < 1 ∨ 10 < b ∨ d < 1 ∨ 8 < d) : StrX H r c t 0 (.ref p) := ⟨p, a, b, d, rfl, h, zapw no⟩
theorem s1 {r c t : Nat} {H : Hp} {p q : Addr} {x y sd tr : Int} (h : H p = some (.tup [.ref q, .int sd, .int tr])) (g : H q = some (.tup [.int x, .int y])) (no : x < 0 ∨ (r : Int) ≤ x ∨ y < 0 ∨ (c : Int) ≤ y ∨ sd < 0 ∨ 4 ≤ sd ∨ tr < 0 ∨ (t : Int) ≤ tr) : StrX H r c t 1 (.ref p) := ⟨p, q, x, y, sd, tr, rfl, h, g, zapx no⟩
theorem s3 {r c t : Nat} {H : Hp} {p : Addr} (hv : Bool) {i j tr : Int} (h : H p = some (.tup [.str (wd hv), .int i, .int j, .int tr])) (no : i < lo (!hv) ∨ (r : Int) ≤ i ∨ j < lo hv ∨ (c : Int) ≤ j ∨ tr < 0 ∨ (t : Int) ≤ tr) : StrX H r c t 3 (.ref p) := ⟨p, (hv, i, j, tr), rfl, h, zapy no⟩
structure StrT (r c t : Nat) (H : Hp) (T : Addr) : Prop where
 ex : ∃ l0 l1 l2 l3 v0 v1 v2 v3, H T = some (.tup [.ref l0, .ref l1, .ref l2, .ref l3]) ∧ SI r c t 0 H l0 v0 ∧ SI r c t 1 H l1 v1 ∧ SI r c t 2 H l2 v2 ∧ SI r c t 3 H l3 v3
section
variable {P : Program} {w : World} {K : PySem.W.Frag} {mg : Str → Option Value} {base : Heap} {f : Addr} {fd : FuncData} {k : Nat}
theorem av39 : AF (defScope (top 39)) ["_law_m", "_law_rows", "_law_columns", "_law_tracks", "_law_far", "_law_sizes", "_law_sides", "_law_wires"] := ⟨by decide +kernel⟩
def spStr : Sp := fun vs H Q _ => ∃ (m : Int) (r c t : Nat), vs = [.int m, .int (r : Int), .int (c : Int), .int (t : Int)] ∧ 0 ≤ m ∧ (r ≤ 10 ∧ c ≤ 10 ∧ t ≤ 8) ∧ ∀ T H', Ch [] H H' → StrT r c t H' T → Q (.ref T) H'
theorem scStr : FnScope ["_law_m", "_law_rows", "_law_columns", "_law_tracks", "_law_far", "_law_sizes", "_law_sides", "_law_wires"] ["_law_m", "_law_rows", "_law_columns", "_law_tracks"] (defScope (top 39)) := ⟨rfl, rfl, rfl, by decide +kernel, rfl, by decide +kernel, by decide +kernel⟩
theorem zarc (F : Fun K "_law_strange" "_law_strange" (top 39) f fd) : FnOk P w K mg base CX0 (k + 1) f fd ["_law_m", "_law_rows", "_law_columns", "_law_tracks"] spStr := by
 have nd := scStr.nd
 refine F.ok scStr (fun vs H Q E h => by obtain ⟨m, r, c, t, rfl, _⟩ := h; rfl) (fun cdv A outer s H vs Q E hr h => ?_)
 obtain ⟨m, r, c, t, rfl, m0, ⟨r1, c1, t1⟩, q⟩ := h
 refine ⟨_, (Pr.h (zabo (zaav (i := 4) nd rfl (av39.l 4 rfl) (zaa1 zabn (zabm (zaaa zaad (zaaa zaad (zaaa (zaaq zaqn zaad zaad) zaab zaa7) zaae) zaae)) (zaaq zacu (qv av39 0 rfl) zaad) (fun _ _ => rfl))) (zabo (zaav (i := 5) nd rfl (av39.l 5 rfl) (zabm (zaaa (zaam (zaaa zaad (zaaa (qv av39 2 rfl) (zaaa (qv av39 3 rfl) zaab zaac) zaac) zaae)) (zaaa (zaam (zaaa (qv av39 1 rfl) (zaaa (zaaq zabw zaad (qv av39 4 rfl)) (zaaa (qv av39 3 rfl) zaab zaac) zaa7) zaac)) (zaaa (zaam (zaaa (qv av39 1 rfl) (zaaa (qv av39 2 rfl) (zaaa zaad zaab zaae) zaac) zaac)) (zaaa (zaam (zaaa (qv av39 1 rfl) (zaaa (qv av39 2 rfl) (zaaa (zaaq zabw zaad (qv av39 4 rfl)) zaab zaa7) zaac) zaac)) zaab zaar) zaar) zaar) zaar))) (zabo (zaav (i := 5) nd rfl (av39.l 5 rfl) (zaaq zac5 (qv av39 5 rfl) (zabm (zaaa (zaam (zaaa (zab3 zab2 (qv av39 4 rfl)) (zaaa (qv av39 2 rfl) (zaaa (qv av39 3 rfl) zaab zaac) zaac) zaa6)) (zaaa (zaam (zaaa (zaaq zabw zaad (qv av39 4 rfl)) (zaaa (qv av39 2 rfl) (zaaa (qv av39 3 rfl) zaab zaac) zaac) zaa7)) (zaaa (zaam (zaaa (qv av39 1 rfl) (zaaa zaad (zaaa (qv av39 3 rfl) zaab zaac) zaae) zaac)) (zaaa (zaam (zaaa (qv av39 1 rfl) (zaaa (qv av39 2 rfl) (zaaa (zab3 zab2 (qv av39 4 rfl)) zaab zaa6) zaac) zaac)) zaab zaar) zaar) zaar) zaar)))) (zabo (zaav (i := 6) nd rfl (av39.l 6 rfl) (zabm (zaaa (zaam (zaaa (zaam (zaaa (zab3 zab2 zaad) (zaaa zaad zaab zaae) zaa6)) (zaaa zaad (zaaa zaad zaab zaae) zaae) zaar)) (zaaa (zaam (zaaa (zaam (zaaa (zaaq zabw (zaaq zack (qv av39 1 rfl) zaad) (qv av39 4 rfl)) (zaaa zaad zaab zaae) zaa7)) (zaaa zaad (zaaa zaad zaab zaae) zaae) zaar)) (zaaa (zaam (zaaa (zaam (zaaa zaad (zaaa (zaaq zabw (zaaq zack (qv av39 2 rfl) zaad) (qv av39 4 rfl)) zaab zaa7) zaae)) (zaaa zaad (zaaa zaad zaab zaae) zaae) zaar)) (zaaa (zaam (zaaa (zaam (zaaa zaad (zaaa (zab3 zab2 (qv av39 4 rfl)) zaab zaa6) zaae)) (zaaa zaad (zaaa zaad zaab zaae) zaae) zaar)) zaab zaar) zaar) zaar) zaar))) (zabo (zaav (i := 6) nd rfl (av39.l 6 rfl) (zaaq zac5 (qv av39 6 rfl) (zabm (zaaa (zaam (zaaa (zaam (zaaa zaad (zaaa zaad zaab zaae) zaae)) (zaaa (zab3 zab2 zaad) (zaaa zaad zaab zaae) zaa6) zaar)) (zaaa (zaam (zaaa (zaam (zaaa zaad (zaaa zaad zaab zaae) zaae)) (zaaa (zaaq zabw zaad (qv av39 4 rfl)) (zaaa zaad zaab zaae) zaa7) zaar)) (zaaa (zaam (zaaa (zaam (zaaa zaad (zaaa zaad zaab zaae) zaae)) (zaaa zaad (zaaa (zab3 zab2 zaad) zaab zaa6) zaae) zaar)) (zaaa (zaam (zaaa (zaam (zaaa zaad (zaaa zaad zaab zaae) zaae)) (zaaa zaad (zaaa (zaaq zabw (zaaq zack (qv av39 3 rfl) zaad) (qv av39 4 rfl)) zaab zaa7) zaae) zaar)) zaab zaar) zaar) zaar) zaar)))) (zabo (zaav (i := 7) nd rfl (av39.l 7 rfl) (zabm (zaaa (zaam (zaaa zaa2 (zaaa (zab3 zab2 zaad) (zaaa zaad (zaaa zaad zaab zaae) zaae) zaa6) zaae)) (zaaa (zaam (zaaa zaa2 (zaaa (qv av39 1 rfl) (zaaa zaad (zaaa zaad zaab zaae) zaae) zaac) zaae)) (zaaa (zaam (zaaa zaa2 (zaaa zaad (zaaa (zaaq zack (zab3 zab2 zaad) (qv av39 4 rfl)) (zaaa zaad zaab zaae) zaa7) zaae) zaae)) (zaaa (zaam (zaaa zaa2 (zaaa zaad (zaaa (zaaq zabw (zaaq zack (qv av39 2 rfl) zaad) (qv av39 4 rfl)) (zaaa zaad zaab zaae) zaa7) zaae) zaae)) zaab zaar) zaar) zaar) zaar))) (zabo (zaav (i := 7) nd rfl (av39.l 7 rfl) (zaaq zac5 (qv av39 7 rfl) (zabm (zaaa (zaam (zaaa zaa2 (zaaa (zaaq zack (zab3 zab2 zaad) (qv av39 4 rfl)) (zaaa zaad (zaaa zaad zaab zaae) zaae) zaa7) zaae)) (zaaa (zaam (zaaa zaa2 (zaaa (zaaq zabw (zaaq zack (qv av39 1 rfl) zaad) (qv av39 4 rfl)) (zaaa zaad (zaaa zaad zaab zaae) zaae) zaa7) zaae)) (zaaa (zaam (zaaa zaa2 (zaaa zaad (zaaa (zab3 zab2 zaad) (zaaa zaad zaab zaae) zaa6) zaae) zaae)) (zaaa (zaam (zaaa zaa2 (zaaa zaad (zaaa (qv av39 2 rfl) (zaaa zaad zaab zaae) zaac) zaae) zaae)) zaab zaar) zaar) zaar) zaar)))) (zabo (zaav (i := 7) nd rfl (av39.l 7 rfl) (zaaq zac5 (qv av39 7 rfl) (zabm (zaaa (zaam (zaaa zaa2 (zaaa zaad (zaaa zaad (zaaa (qv av39 3 rfl) zaab zaac) zaae) zaae) zaae)) (zaaa (zaam (zaaa zaa2 (zaaa zaad (zaaa zaad (zaaa (zab3 zab2 zaad) zaab zaa6) zaae) zaae) zaae)) zaab zaar) zaar)))) (zaak (zaap (zaam (zaaa (qv av39 5 rfl) (zaaa (qv av39 6 rfl) (zaaa (zabm (zaaa (zab3 zab2 (qv av39 4 rfl)) (zaaa (zaaq zabw (zaaq zack (zaaq zadi zaad (zaaq zabw (qv av39 1 rfl) (qv av39 2 rfl))) zaad) (qv av39 4 rfl)) zaab zaa7) zaa6)) (zaaa (qv av39 7 rfl) zaab zaac) zag7) zaac) zaac))))))))))))), ?_⟩
 (try dsimp only [cxOf])
 obtain ⟨far, hfar, f1⟩ : ∃ far : Int, atI [V.int 1, V.int 2, V.int 100000000000000000000] (m % 3) = some (.int far) ∧ 1 ≤ far := by
  have : m % 3 = 0 ∨ m % 3 = 1 ∨ m % 3 = 2 := by omega
  rcases this with h | h | h <;> rw [h] <;> exact ⟨_, rfl, by decide⟩
 refine zach (fun σ H' => σ = [some (.int m), some (.int (r : Int)), some (.int (c : Int)), some (.int (t : Int)), some (.int far), none, none, none] ∧ Ch [] H H') ?_ ?_
 ·walk_at "rd"
  refine Atx.of (show atI [V.int 1, V.int 2, V.int (10 ^ (20 : Int).toNat)] (m % 3) = _ from hfar) ?_
  walk_at "rd"
 rintro σ H1 ⟨rfl, d1⟩
 clear hfar
 refine zach (fun σ H' => ∃ (l : Addr) (vs : List V), σ = [some (.int m), some (.int (r : Int)), some (.int (c : Int)), some (.int (t : Int)), some (.int far), some (.ref l), none, none] ∧ Ch [] H1 H' ∧ SI r c t 0 H' l vs ∧ vs.length = 4) ?_ ?_
 ·walk_at "rd"
  rename_i a1 b1 a2 b2 a3 b3 a4 b4 a5 b5
  dsimp only at *
  refine (fun st => ⟨st, rfl⟩) (?_ : SI r c t 0 _ a5 [V.ref a1, V.ref a2, V.ref a3, V.ref a4])
  generalize hH : upd _ a5 _ = H9
  have c9 : Ch [] H1 H9 := by rw [← hH]; walk_at "ch"
  refine ⟨by rw [← hH]; exact zaal, fun v hv => ?_⟩
  simp only [List.mem_cons, List.not_mem_nil, or_false] at hv
  rcases hv with rfl | rfl | rfl | rfl
  ·exact s0 (a := 0) (b := (c : Int)) (d := (t : Int)) (by rw [← hH]; walk_at "get") (by omega)
  ·exact s0 (a := (r : Int)) (b := 10 + far) (d := (t : Int)) (by rw [← hH]; walk_at "get") (by omega)
  ·exact s0 (a := (r : Int)) (b := (c : Int)) (d := 0) (by rw [← hH]; walk_at "get") (by omega)
  ·exact s0 (a := (r : Int)) (b := (c : Int)) (d := 8 + far) (by rw [← hH]; walk_at "get") (by omega)
 rintro σ H2 ⟨l2, vs2, rfl, d2, si2, lv2⟩
 have g2 := si2.g
 refine zach (fun σ H' => ∃ (l : Addr) (vs : List V), σ = [some (.int m), some (.int (r : Int)), some (.int (c : Int)), some (.int (t : Int)), some (.int far), some (.ref l), none, none] ∧ Ch [] H2 H' ∧ SI r c t 0 H' l vs ∧ vs.length = 8) ?_ ?_
 ·walk_at "rd"
  rename_i a1 b1 a2 b2 a3 b3 a4 b4 a5 b5 a6 b6
  dsimp only at *
  refine (fun st => ⟨st, by rw [List.length_append, lv2]; rfl⟩) (?_ : SI r c t 0 _ a6 (vs2 ++ [V.ref a1, V.ref a2, V.ref a3, V.ref a4]))
  generalize hH : upd _ a6 _ = H9
  have c9 : Ch [] H2 H9 := by rw [← hH]; walk_at "ch"
  refine ⟨by rw [← hH]; exact zaal, fun v hv => ?_⟩
  rcases List.mem_append.mp hv with hv | hv
  ·exact (si2.s v hv).ch c9
  ·simp only [List.mem_cons, List.not_mem_nil, or_false] at hv
   rcases hv with rfl | rfl | rfl | rfl
   ·exact s0 (a := -far) (b := (c : Int)) (d := (t : Int)) (by rw [← hH]; walk_at "get") (by omega)
   ·exact s0 (a := 10 + far) (b := (c : Int)) (d := (t : Int)) (by rw [← hH]; walk_at "get") (by omega)
   ·exact s0 (a := (r : Int)) (b := 0) (d := (t : Int)) (by rw [← hH]; walk_at "get") (by omega)
   ·exact s0 (a := (r : Int)) (b := (c : Int)) (d := -far) (by rw [← hH]; walk_at "get") (by omega)
 rintro σ H3 ⟨l3, vs3, rfl, d3, si3, lv3⟩
 have g3 := si3.g
 refine zach (fun σ H' => ∃ (l : Addr) (vs : List V), σ = [some (.int m), some (.int (r : Int)), some (.int (c : Int)), some (.int (t : Int)), some (.int far), some (.ref l3), some (.ref l), none] ∧ Ch [] H3 H' ∧ SI r c t 1 H' l vs ∧ vs.length = 4) ?_ ?_
 ·walk_at "rd"
  rename_i a1 b1 a2 b2 a3 b3 a4 b4 a5 b5 a6 b6 a7 b7 a8 b8 a9 b9
  dsimp only at *
  refine (fun st => ⟨st, rfl⟩) (?_ : SI r c t 1 _ a9 [V.ref a2, V.ref a4, V.ref a6, V.ref a8])
  generalize hH : upd _ a9 _ = H9
  have c9 : Ch [] H3 H9 := by rw [← hH]; walk_at "ch"
  refine ⟨by rw [← hH]; exact zaal, fun v hv => ?_⟩
  simp only [List.mem_cons, List.not_mem_nil, or_false] at hv
  rcases hv with rfl | rfl | rfl | rfl
  ·exact s1 (q := a1) (x := -1) (y := 0) (sd := 0) (tr := 0) (by rw [← hH]; walk_at "get") (by rw [← hH]; walk_at "get") (by omega)
  ·exact s1 (q := a3) (x := (r : Int) - 1 + far) (y := 0) (sd := 1) (tr := 0) (by rw [← hH]; walk_at "get") (by rw [← hH]; walk_at "get") (by omega)
  ·exact s1 (q := a5) (x := 0) (y := (c : Int) - 1 + far) (sd := 2) (tr := 0) (by rw [← hH]; walk_at "get") (by rw [← hH]; walk_at "get") (by omega)
  ·exact s1 (q := a7) (x := 0) (y := -far) (sd := 3) (tr := 0) (by rw [← hH]; walk_at "get") (by rw [← hH]; walk_at "get") (by omega)
 rintro σ H4 ⟨l4, vs4, rfl, d4, si4, lv4⟩
 have g4 := si4.g
 refine zach (fun σ H' => ∃ (l : Addr) (vs : List V), σ = [some (.int m), some (.int (r : Int)), some (.int (c : Int)), some (.int (t : Int)), some (.int far), some (.ref l3), some (.ref l), none] ∧ Ch [] H4 H' ∧ SI r c t 1 H' l vs ∧ vs.length = 8) ?_ ?_
 ·walk_at "rd"
  rename_i a1 b1 a2 b2 a3 b3 a4 b4 a5 b5 a6 b6 a7 b7 a8 b8 a9 b9 a10 b10
  dsimp only at *
  refine (fun st => ⟨st, by rw [List.length_append, lv4]; rfl⟩) (?_ : SI r c t 1 _ a10 (vs4 ++ [V.ref a2, V.ref a4, V.ref a6, V.ref a8]))
  generalize hH : upd _ a10 _ = H9
  have c9 : Ch [] H4 H9 := by rw [← hH]; walk_at "ch"
  refine ⟨by rw [← hH]; exact zaal, fun v hv => ?_⟩
  rcases List.mem_append.mp hv with hv | hv
  ·exact (si4.s v hv).ch c9
  ·simp only [List.mem_cons, List.not_mem_nil, or_false] at hv
   rcases hv with rfl | rfl | rfl | rfl
   ·exact s1 (q := a1) (x := 0) (y := 0) (sd := -1) (tr := 0) (by rw [← hH]; walk_at "get") (by rw [← hH]; walk_at "get") (by omega)
   ·exact s1 (q := a3) (x := 0) (y := 0) (sd := 3 + far) (tr := 0) (by rw [← hH]; walk_at "get") (by rw [← hH]; walk_at "get") (by omega)
   ·exact s1 (q := a5) (x := 0) (y := 0) (sd := 0) (tr := -1) (by rw [← hH]; walk_at "get") (by rw [← hH]; walk_at "get") (by omega)
   ·exact s1 (q := a7) (x := 0) (y := 0) (sd := 0) (tr := (t : Int) - 1 + far) (by rw [← hH]; walk_at "get") (by rw [← hH]; walk_at "get") (by omega)
 rintro σ H5 ⟨l5, vs5, rfl, d5, si5, lv5⟩
 have g5 := si5.g
 refine zach (fun σ H' => ∃ (l : Addr) (vs : List V), σ = [some (.int m), some (.int (r : Int)), some (.int (c : Int)), some (.int (t : Int)), some (.int far), some (.ref l3), some (.ref l5), some (.ref l)] ∧ Ch [] H5 H' ∧ SI r c t 3 H' l vs ∧ vs.length = 4) ?_ ?_
 ·walk_at "rd"
  rename_i a1 b1 a2 b2 a3 b3 a4 b4 a5 b5
  dsimp only at *
  refine (fun st => ⟨st, rfl⟩) (?_ : SI r c t 3 _ a5 [V.ref a1, V.ref a2, V.ref a3, V.ref a4])
  generalize hH : upd _ a5 _ = H9
  have c9 : Ch [] H5 H9 := by rw [← hH]; walk_at "ch"
  refine ⟨by rw [← hH]; exact zaal, fun v hv => ?_⟩
  simp only [List.mem_cons, List.not_mem_nil, or_false] at hv
  rcases hv with rfl | rfl | rfl | rfl
  ·exact s3 true (i := -1) (j := 0) (tr := 0) (by show H9 _ = some (.tup [.str "h", _, _, _]); rw [← hH]; walk_at "get") (by simp only [lo, Bool.not_true, Bool.not_false, if_true, if_false, Bool.false_eq_true]; omega)
  ·exact s3 true (i := (r : Int)) (j := 0) (tr := 0) (by show H9 _ = some (.tup [.str "h", _, _, _]); rw [← hH]; walk_at "get") (by simp only [lo, Bool.not_true, Bool.not_false, if_true, if_false, Bool.false_eq_true]; omega)
  ·exact s3 true (i := 0) (j := -1 - far) (tr := 0) (by show H9 _ = some (.tup [.str "h", _, _, _]); rw [← hH]; walk_at "get") (by simp only [lo, Bool.not_true, Bool.not_false, if_true, if_false, Bool.false_eq_true]; omega)
  ·exact s3 true (i := 0) (j := (c : Int) - 1 + far) (tr := 0) (by show H9 _ = some (.tup [.str "h", _, _, _]); rw [← hH]; walk_at "get") (by simp only [lo, Bool.not_true, Bool.not_false, if_true, if_false, Bool.false_eq_true]; omega)
 rintro σ H6 ⟨l6, vs6, rfl, d6, si6, lv6⟩
 have g6 := si6.g
 refine zach (fun σ H' => ∃ (l : Addr) (vs : List V), σ = [some (.int m), some (.int (r : Int)), some (.int (c : Int)), some (.int (t : Int)), some (.int far), some (.ref l3), some (.ref l5), some (.ref l)] ∧ Ch [] H6 H' ∧ SI r c t 3 H' l vs ∧ vs.length = 8) ?_ ?_
 ·walk_at "rd"
  rename_i a1 b1 a2 b2 a3 b3 a4 b4 a5 b5 a6 b6
  dsimp only at *
  refine (fun st => ⟨st, by rw [List.length_append, lv6]; rfl⟩) (?_ : SI r c t 3 _ a6 (vs6 ++ [V.ref a1, V.ref a2, V.ref a3, V.ref a4]))
  generalize hH : upd _ a6 _ = H9
  have c9 : Ch [] H6 H9 := by rw [← hH]; walk_at "ch"
  refine ⟨by rw [← hH]; exact zaal, fun v hv => ?_⟩
  rcases List.mem_append.mp hv with hv | hv
  ·exact (si6.s v hv).ch c9
  ·simp only [List.mem_cons, List.not_mem_nil, or_false] at hv
   rcases hv with rfl | rfl | rfl | rfl
   ·exact s3 false (i := -1 - far) (j := 0) (tr := 0) (by show H9 _ = some (.tup [.str "v", _, _, _]); rw [← hH]; walk_at "get") (by simp only [lo, Bool.not_true, Bool.not_false, if_true, if_false, Bool.false_eq_true]; omega)
   ·exact s3 false (i := (r : Int) - 1 + far) (j := 0) (tr := 0) (by show H9 _ = some (.tup [.str "v", _, _, _]); rw [← hH]; walk_at "get") (by simp only [lo, Bool.not_true, Bool.not_false, if_true, if_false, Bool.false_eq_true]; omega)
   ·exact s3 false (i := 0) (j := -1) (tr := 0) (by show H9 _ = some (.tup [.str "v", _, _, _]); rw [← hH]; walk_at "get") (by simp only [lo, Bool.not_true, Bool.not_false, if_true, if_false, Bool.false_eq_true]; omega)
   ·exact s3 false (i := 0) (j := (c : Int)) (tr := 0) (by show H9 _ = some (.tup [.str "v", _, _, _]); rw [← hH]; walk_at "get") (by simp only [lo, Bool.not_true, Bool.not_false, if_true, if_false, Bool.false_eq_true]; omega)
 rintro σ H7 ⟨l7, vs7, rfl, d7, si7, lv7⟩
 have g7 := si7.g
 refine zach (fun σ H' => ∃ (l : Addr) (vs : List V), σ = [some (.int m), some (.int (r : Int)), some (.int (c : Int)), some (.int (t : Int)), some (.int far), some (.ref l3), some (.ref l5), some (.ref l)] ∧ Ch [] H7 H' ∧ SI r c t 3 H' l vs ∧ vs.length = 10) ?_ ?_
 ·walk_at "rd"
  rename_i a1 b1 a2 b2 a3 b3 a4 b4
  dsimp only at *
  refine (fun st => ⟨st, by rw [List.length_append, lv7]; rfl⟩) (?_ : SI r c t 3 _ a4 (vs7 ++ [V.ref a1, V.ref a2]))
  generalize hH : upd _ a4 _ = H9
  have c9 : Ch [] H7 H9 := by rw [← hH]; walk_at "ch"
  refine ⟨by rw [← hH]; exact zaal, fun v hv => ?_⟩
  rcases List.mem_append.mp hv with hv | hv
  ·exact (si7.s v hv).ch c9
  ·simp only [List.mem_cons, List.not_mem_nil, or_false] at hv
   rcases hv with rfl | rfl
   ·exact s3 true (i := 0) (j := 0) (tr := (t : Int)) (by show H9 _ = some (.tup [.str "h", _, _, _]); rw [← hH]; walk_at "get") (by simp only [lo, Bool.not_true, Bool.not_false, if_true, if_false, Bool.false_eq_true]; omega)
   ·exact s3 false (i := 0) (j := 0) (tr := -1) (by show H9 _ = some (.tup [.str "v", _, _, _]); rw [← hH]; walk_at "get") (by simp only [lo, Bool.not_true, Bool.not_false, if_true, if_false, Bool.false_eq_true]; omega)
 rintro σ H8 ⟨l8, vs8, rfl, d8, si8, lv8⟩
 have g8 := si8.g
 walk_at "rd"
 rename_i p hp T hT
 dsimp only at *
 generalize hH : upd _ T _ = H9
 have c9 : Ch [] H8 H9 := by rw [← hH]; walk_at "ch"
 have e1 : Ch [] H H9 := ((((((((d1.trans d2).trans d3).trans d4).trans d5).trans d6).trans d7).trans d8).trans c9)
 refine q T H9 e1 ⟨l3, l5, p, l8, vs3, vs5, [.int (-far), .int (2 * ((r : Int) + c) - 1 + far)], vs8, by rw [← hH]; exact zaal, si3.ch (((((d4.trans d5).trans d6).trans d7).trans d8).trans c9), si5.ch (((d6.trans d7).trans d8).trans c9), ⟨by rw [← hH]; walk_at "get", fun v hv => ?_⟩, si8.ch c9⟩
 simp only [List.mem_cons, List.not_mem_nil, or_false] at hv
 rcases hv with rfl | rfl
 ·exact ⟨_, rfl, by simp [belB]; omega⟩
 ·exact ⟨_, rfl, by simp [belB]; omega⟩
end
end

section
def spSide (C : Addr) : Sp := fun vs H Q _ => ∃ (fl dx bx : Addr) (r c t x y sd tr : Int), vs = [.ref fl, .ref bx, .int sd, .int tr] ∧ H fl = some (.ins C dx (fldsF r c t)) ∧ H bx = some (.tup [.int x, .int y]) ∧ 0 ≤ x ∧ x < r ∧ 0 ≤ y ∧ y < c ∧ 0 ≤ sd ∧ sd < 4 ∧ 0 ≤ tr ∧ tr < t ∧
 ∀ p H', Ch [] H H' → H p = none → H' p = some (.tup ((wK (sideW x y sd tr)).map kV)) → Q (.ref p) H'
theorem zalq {C CO : Addr} : ∀ vs H Q E, spSide C vs H Q E → spSideX C CO vs H Q E0 := fun vs H Q E ⟨fl, dx, bx, r, c, t, x, y, sd, tr, e, h1, h2, x0, x1, y0, y1, s0, s1, t0, t1, q⟩ =>
 ⟨fl, dx, bx, r, c, t, x, y, sd, tr, e, h1, h2, fun _ => q, fun z => by simp [sideB, belB] at z; omega⟩
structure WOk (r c t : Int) (w : Wi) : Prop where
 h : wireB r c t w = true
def spBoxes (C : Addr) : Sp := fun vs H Q _ => ∃ (fl dx wa : Addr) (r c t : Int) (wr : Wi), vs = [.ref fl, .ref wa] ∧ H fl = some (.ins C dx (fldsF r c t)) ∧ H wa = some (.tup ((wK wr).map kV)) ∧ WOk r c t wr ∧
 ∀ l ys H', Ch [] H H' → H l = none → H' l = some (.lst ys) → LW H' ((boxesW r c wr).map bxK) ys → Q (.ref l) H'
theorem zai3 {C CO : Addr} : ∀ vs H Q E, spBoxes C vs H Q E → spBoxesX C CO vs H Q E0 := fun vs H Q E ⟨fl, dx, wa, r, c, t, wr, e, h1, h2, ⟨ok⟩, q⟩ =>
 ⟨fl, dx, wa, r, c, t, wr, e, h1, h2, fun _ => q, fun z => absurd (ok.symm.trans z) (by decide)⟩
theorem Eqv.up {H : Hp} : ∀ {n : Nat} {x y : V}, Eqv n H x y → Eqv (n + 1) H x y
 | 0, _, _, h => h.elim
 | n + 1, x, y, h => by
  rcases h with h | ⟨p, r, xs, ys, e1, e2, g1, g2, pr, l⟩ | ⟨p, r, xs, ys, e1, e2, g1, g2, pr, l⟩
  ·exact .inl h
  ·exact .inr (.inl ⟨p, r, xs, ys, e1, e2, g1, g2, zaca (fun _ _ => Eqv.up) pr, l⟩)
  ·exact .inr (.inr ⟨p, r, xs, ys, e1, e2, g1, g2, zaca (fun _ _ => Eqv.up) pr, l⟩)
theorem zaf6 {H : Hp} : ∀ ks : List Key, Paired (Eqv 1 H) (ks.map kV) (ks.map kV)
 | [] => .nil
 | k :: ks => .cons (.inl ⟨k, rfl, rfl⟩) (zaf6 ks)
theorem zalr {H : Hp} {p r : Addr} {k : List Key} (h1 : H p = some (.tup (k.map kV))) (h2 : H r = some (.tup (k.map kV))) (l : k.length ≤ 4000) : Eqv 2 H (.ref p) (.ref r) := .inr (.inl ⟨p, r, _, _, rfl, rfl, h1, h2, zaf6 k, by rw [List.length_map]; exact l⟩)
theorem zan0 {H : Hp} : ∀ {ks : List Wr} {ps qs : List Addr}, (∀ k ∈ ks, k.length ≤ 4) → WsAt H ks ps → WsAt H ks qs → Paired (Eqv 2 H) (ps.map V.ref) (qs.map V.ref)
 | _, _, _, _, .nil, .nil => .nil
 | _, _, _, hl, .cons a t, .cons b u => .cons (zalr a b (Nat.le_trans (hl _ (by simp)) (by decide))) (zan0 (fun k hk => hl k (by simp [hk])) t u)
theorem zag0 {H : Hp} {l1 l2 : Addr} {ks : List Wr} {ys zs : List V} (hl : ∀ k ∈ ks, k.length ≤ 4) (hn : ks.length ≤ 4000) (g1 : H l1 = some (.lst ys)) (g2 : H l2 = some (.lst zs)) (a : LW H ks ys) (b : LW H ks zs) : EqvS 3 H (.ref l1) (.ref l2) := by
 have e := a.len
 obtain ⟨ps, rfl, a'⟩ := a.ex
 obtain ⟨qs, rfl, b'⟩ := b.ex
 exact ⟨.inr (.inr ⟨l1, l2, _, _, rfl, rfl, g1, g2, zan0 hl a' b', by rw [e]; exact hn⟩)⟩
def bef (x y s tr i j sd k : Int) : Prop := x < i ∨ (x = i ∧ (y < j ∨ (y = j ∧ (s < sd ∨ (s = sd ∧ tr < k)))))
instance (x y s tr i j sd k : Int) : Decidable (bef x y s tr i j sd k) := by unfold bef; infer_instance
def one (r c t x y s tr i j sd k : Int) : Int := if 0 ≤ x ∧ x < r ∧ 0 ≤ y ∧ y < c ∧ 0 ≤ tr ∧ tr < t ∧ bef x y s tr i j sd k then 1 else 0
def cnt (r c t : Int) (w : Wi) (i j sd k : Int) : Int := if w.1 then one r c t w.2.1 w.2.2.1 1 w.2.2.2 i j sd k + one r c t w.2.1 (w.2.2.1 + 1) 0 w.2.2.2 i j sd k
 else one r c t w.2.1 w.2.2.1 3 w.2.2.2 i j sd k + one r c t (w.2.1 + 1) w.2.2.1 2 w.2.2.2 i j sd k
theorem zanc {r c t i j sd k : Int} (h : 0 ≤ i ∧ i < r ∧ 0 ≤ j ∧ j < c ∧ 0 ≤ k ∧ k < t) (x y s tr : Int) : one r c t x y s tr i j sd (k + 1) = one r c t x y s tr i j sd k + (if x = i ∧ y = j ∧ s = sd ∧ tr = k then 1 else 0) := by
 unfold one bef
 split <;> split <;> split <;> omega
theorem zaru {r c t i j sd : Int} (x y s tr : Int) : one r c t x y s tr i j sd t = one r c t x y s tr i j (sd + 1) 0 := by
 unfold one bef
 split <;> split <;> omega
theorem zand {r c t i j : Int} (x y s tr : Int) (h : 0 ≤ s ∧ s < 4) : one r c t x y s tr i j 4 0 = one r c t x y s tr i (j + 1) 0 0 := by
 unfold one bef
 split <;> split <;> omega
theorem zane {r c t i : Int} (x y s tr : Int) (h : 0 ≤ s) : one r c t x y s tr i c 0 0 = one r c t x y s tr (i + 1) 0 0 0 := by
 unfold one bef
 split <;> split <;> omega
theorem zanf {r c t : Int} (x y s tr : Int) (h : 0 ≤ s) : one r c t x y s tr 0 0 0 0 = 0 := by
 unfold one bef
 split <;> omega
theorem zarv {r c t i j sd : Int} (w : Wi) : cnt r c t w i j sd t = cnt r c t w i j (sd + 1) 0 := by unfold cnt; simp only [zaru]
theorem zarw {r c t i j : Int} (w : Wi) : cnt r c t w i j 4 0 = cnt r c t w i (j + 1) 0 0 := by
 unfold cnt
 rw [zand _ _ 1 _ (by decide), zand _ _ 0 _ (by decide), zand _ _ 3 _ (by decide), zand _ _ 2 _ (by decide)]
theorem zarx {r c t i : Int} (w : Wi) : cnt r c t w i c 0 0 = cnt r c t w (i + 1) 0 0 0 := by
 unfold cnt
 rw [zane _ _ 1 _ (by decide), zane _ _ 0 _ (by decide), zane _ _ 3 _ (by decide), zane _ _ 2 _ (by decide)]
theorem zary {r c t : Int} (w : Wi) : cnt r c t w 0 0 0 0 = 0 := by
 unfold cnt
 rw [zanf _ _ 1 _ (by decide), zanf _ _ 0 _ (by decide), zanf _ _ 3 _ (by decide), zanf _ _ 2 _ (by decide)]
 split <;> rfl
theorem zang {r c t i j sd k : Int} (h : 0 ≤ i ∧ i < r ∧ 0 ≤ j ∧ j < c ∧ 0 ≤ k ∧ k < t) (hs : 0 ≤ sd ∧ sd < 4) (w : Wi) : cnt r c t w i j sd (k + 1) = cnt r c t w i j sd k + (if w = sideW i j sd k then 1 else 0) := by
 obtain ⟨hv, a, b, tr⟩ := w
 unfold cnt
 simp only [zanc h]
 have : sd = 0 ∨ sd = 1 ∨ sd = 2 ∨ sd = 3 := by omega
 rcases this with rfl | rfl | rfl | rfl <;> cases hv <;> simp [sideW] <;> (try split) <;> (try split) <;> omega
theorem zard {w w' : Wi} (h : wK w = wK w') : w = w' := by
 obtain ⟨hv, a, b, c⟩ := w
 obtain ⟨hv', a', b', c'⟩ := w'
 simp only [wK, List.cons.injEq, Sum.inr.injEq, Sum.inl.injEq, and_true] at h
 obtain ⟨h1, h2, h3, h4⟩ := h
 have : hv = hv' := by cases hv <;> cases hv' <;> first | rfl | exact absurd h1 (by decide +kernel)
 rw [this, h2, h3, h4]
theorem zaf7 {r c t : Int} (x y s tr : Int) (h : 0 ≤ s) (ht : 0 ≤ tr ∧ tr < t) : one r c t x y s tr r 0 0 0 = if inB r c (x, y) = true then 1 else 0 := by
 unfold one bef inB belB
 simp only [Bool.and_eq_true, decide_eq_true_eq]
 split <;> split <;> omega
theorem zapz {r c t : Int} {w : Wi} (h : wireB r c t w = true) : cnt r c t w r 0 0 0 = ((boxesW r c w).length : Int) := by
 obtain ⟨hv, a, b, tr⟩ := w
 have ht : 0 ≤ tr ∧ tr < t := by simp [wireB, belB] at h; exact h.2.2
 cases hv with
 | true =>
  show one r c t a b 1 tr r 0 0 0 + one r c t a (b + 1) 0 tr r 0 0 0 = (([(a, b), (a, b + 1)].filter (inB r c)).length : Int)
  rw [zaf7 _ _ _ _ (by decide) ht, zaf7 _ _ _ _ (by decide) ht]
  cases e1 : inB r c (a, b) <;> cases e2 : inB r c (a, b + 1) <;> simp [List.filter_cons, e1, e2]
 | false =>
  show one r c t a b 3 tr r 0 0 0 + one r c t (a + 1) b 2 tr r 0 0 0 = (([(a, b), (a + 1, b)].filter (inB r c)).length : Int)
  rw [zaf7 _ _ _ _ (by decide) ht, zaf7 _ _ _ _ (by decide) ht]
  cases e1 : inB r c (a, b) <;> cases e2 : inB r c (a + 1, b) <;> simp [List.filter_cons, e1, e2]
theorem zaf8 {r c t : Nat} {k : Wr} (h : k ∈ wiresK r c t) : ∃ w, k = wK w ∧ wireB r c t w = true := by
 have half : ∀ hv, k ∈ halfK hv r c t → ∃ w, k = wK w ∧ wireB r c t w = true := fun hv h => by
  simp only [halfK, colsK, trk, fl, rng, List.mem_flatten, List.mem_map, List.mem_range] at h
  obtain ⟨_, ⟨m, hm, rfl⟩, h⟩ := h
  simp only [List.mem_flatten, List.mem_map, List.mem_range] at h
  obtain ⟨_, ⟨m2, hm2, rfl⟩, h⟩ := h
  simp only [List.mem_map, List.mem_range] at h
  obtain ⟨m3, hm3, rfl⟩ := h
  refine ⟨_, rfl, ?_⟩
  cases hv <;> simp [wireB, belB, lo] at hm hm2 ⊢ <;> omega
 simp only [wiresK, List.mem_append] at h
 exact h.elim (half true) (half false)
end

section
local macro_rules | `(tactic| walk_at "user") => `(tactic| first
 | (apply zars; walk_at "get")
 | (apply DGet.t; (focus walk_at "get"); (focus walk_at "get"))
 | (apply DPut.t; (focus walk_at "get"); (focus walk_at "get"); (focus with_reducible assumption)))
structure Mt (H : Hp) (md : Addr) (r c t : Nat) (i j sd k : Int) : Prop where
 ex : ∃ kvs : List (List Key × V), H md = some (.dT kvs) ∧ (kvs.length : Int) ≤ ((i * 10 + j) * 4 + sd) * 8 + k ∧ ∀ w : Wi, (valV kvs (wK w)).getD (.int 0) = .int (cnt r c t w i j sd k)
theorem Mt.ch {H H' : Hp} {md : Addr} {r c t : Nat} {i j sd k : Int} (m : Mt H md r c t i j sd k) (cc : Ch [] H H') : Mt H' md r c t i j sd k := let ⟨kvs, a, b, d⟩ := m.ex; ⟨kvs, cc.get a (by simp), b, d⟩
section
variable {P : Program} {w : World} {K : PySem.W.Frag} {mg : Str → Option Value} {base : Heap} {f : Addr} {fd : FuncData} {k : Nat}
theorem zad4 : Nd "_law_due_side" := by decide +kernel
theorem zacv : Nd "_law_due_wires" := by decide +kernel
theorem zady : Nd "_law_due_boxes" := by decide +kernel
theorem av37 : AF (defScope (top 37)) ["_law_floor", "_law_rows", "_law_columns", "_law_tracks", "_law_met", "_law_r", "_law_c", "_law_side", "_law_track", "_law_wire", "_law_boxes"] := ⟨by decide +kernel⟩
theorem gl37 : AG (defScope (top 37)) ["range", "side_wire", "_law_same", "_law_due_side", "_law_due_wires", "boxes_at", "len", "_law_due_boxes"] := ⟨by decide +kernel⟩
def spWalked (C : Addr) : Sp := fun vs H Q _ => ∃ (fa dx : Addr) (r c t : Nat), vs = [.ref fa, .int (r : Int), .int (c : Int), .int (t : Int)] ∧ H fa = some (.ins C dx (fldsF r c t)) ∧ (r ≤ 10 ∧ c ≤ 10 ∧ t ≤ 8) ∧ ∀ H', Ch [] H H' → Q (.bl true) H'
theorem scWalked : FnScope ["_law_floor", "_law_rows", "_law_columns", "_law_tracks", "_law_met", "_law_r", "_law_c", "_law_side", "_law_track", "_law_wire", "_law_boxes"] ["_law_floor", "_law_rows", "_law_columns", "_law_tracks"] (defScope (top 37)) := ⟨rfl, rfl, rfl, by decide +kernel, rfl, by decide +kernel, by decide +kernel⟩
theorem zals {C : Addr} (F : Fun K "_law_walked" "_law_walked" (top 37) f fd) (Dside_wire : DefOk P w K mg base CX0 k "side_wire" ["floor", "box", "side", "track"] (spSide C)) (Dboxes_at : DefOk P w K mg base CX0 k "boxes_at" ["floor", "wire"] (spBoxes C)) (D_law_same : DefOk P w K mg base CX0 k "_law_same" ["_law_found", "_law_due"] (spSame 3)) (D_law_due_side : DefOk P w K mg base CX0 k "_law_due_side" ["_law_box", "_law_side", "_law_track"] spDueS) (D_law_due_wires : DefOk P w K mg base CX0 k "_law_due_wires" ["_law_rows", "_law_columns", "_law_tracks"] spDueW) (D_law_due_boxes : DefOk P w K mg base CX0 k "_law_due_boxes" ["_law_rows", "_law_columns", "_law_wire"] spDueB)
  (z_range : mg "range" = none) (z_len : mg "len" = none) : FnOk P w K mg base CX0 (k + 1) f fd ["_law_floor", "_law_rows", "_law_columns", "_law_tracks"] (spWalked C) := by
 have nd := scWalked.nd
 refine F.ok scWalked (fun vs H Q E h => by obtain ⟨fa, dx, r, c, t, rfl, _⟩ := h; rfl) (fun cdv A outer s H vs Q E hr h => ?_)
 obtain ⟨fa, dx, r, c, t, rfl, hf, ⟨r1, c1, t1⟩, q⟩ := h
 have hu := zarp hr
 refine ⟨_, (Pr.h (zaaf (zaav (i := 4) nd rfl (av37.l 4 rfl) zaj8) (zaaf (zabk PassesOwn.never rfl (zaaz (gl37.g 0 rfl) z_range (zaaa (qv av37 1 rfl) zaab zaac)) (zaao (i := 5) nd rfl (av37.l 5 rfl)) (zaak (zabk PassesOwn.never rfl (zaaz (gl37.g 0 rfl) z_range (zaaa (qv av37 2 rfl) zaab zaac)) (zaao (i := 6) nd rfl (av37.l 6 rfl)) (zaak (zabk PassesOwn.never rfl (zaaz (gl37.g 0 rfl) z_range (zaaa zaad zaab zaae)) (zaao (i := 7) nd rfl (av37.l 7 rfl)) (zaak (zabk PassesOwn.never rfl (zaaz (gl37.g 0 rfl) z_range (zaaa (qv av37 3 rfl) zaab zaac)) (zaao (i := 8) nd rfl (av37.l 8 rfl)) (zaaf (zaav (i := 9) nd rfl (av37.l 9 rfl) (zaan Dside_wire hr (gl37.g 1 rfl) pass0 (zaaa (qv av37 0 rfl) (zaaa (zaam (zaaa (qv av37 5 rfl) (zaaa (qv av37 6 rfl) zaab zaac) zaac)) (zaaa (qv av37 7 rfl) (zaaa (qv av37 8 rfl) zaab zaac) zaac) zaar) zaac) zad0)) (zaaf (zaa4 (zabj (zaa3 (zaan D_law_same hr (gl37.g 2 rfl) pass0 (zaaa (qv av37 9 rfl) (zaaa (zaan D_law_due_side hr (gl37.g 3 rfl) pass0 (zaaa (zaam (zaaa (qv av37 5 rfl) (zaaa (qv av37 6 rfl) zaab zaac) zaac)) (zaaa (qv av37 7 rfl) (zaaa (qv av37 8 rfl) zaab zaac) zaac) zaar) zad4) zaab zabt) zaac) zaa8))) (zaak (zaap zabz)) zaas) (zaak (zamy hu (qv av37 4 rfl) (qv av37 9 rfl) (zaaq zabw (zagt hu (qv av37 4 rfl) (qv av37 9 rfl) zaad ⟨rfl, rfl, rfl, rfl⟩) zaad) rfl))))))))))) (zaaf (zabk PassesOwn.never rfl (zacz (zaan D_law_due_wires hr (gl37.g 4 rfl) pass0 (zaaa (qv av37 1 rfl) (zaaa (qv av37 2 rfl) (zaaa (qv av37 3 rfl) zaab zaac) zaac) zaac) zacv)) (zaao (i := 9) nd rfl (av37.l 9 rfl)) (zaaf (zaav (i := 10) nd rfl (av37.l 10 rfl) (zaan Dboxes_at hr (gl37.g 5 rfl) pass0 (zaaa (qv av37 0 rfl) (zaaa (qv av37 9 rfl) zaab zaac) zaac) zaem)) (zaaf (zaa4 (zab8 (zab9 (zabj (zaa3 (zaan D_law_same hr (gl37.g 2 rfl) pass0 (zaaa (qv av37 10 rfl) (zaaa (zaan D_law_due_boxes hr (gl37.g 7 rfl) pass0 (zaaa (qv av37 1 rfl) (zaaa (qv av37 2 rfl) (zaaa (qv av37 9 rfl) zaab zaac) zaac) zaac) zady) zaab zabt) zaac) zaa8))) (zabx (zaaw zadb (zagt hu (qv av37 4 rfl) (qv av37 9 rfl) zaad ⟨rfl, rfl, rfl, rfl⟩) (zaaj zaau (gl37.g 6 rfl) z_len PySem.boot_len (zaaa (qv av37 10 rfl) zaab zaac) zab0 zab1) (nomark _))))) (zaak (zaap zabz)) zaas) (zaak (zacp (zaex PySem.F.plainAttrs_list PySem.F.slot_list_append PySem.F.type_list_append zagm (qv av37 10 rfl) (zaaa zacy zaab zaae))))))) (zaak (zaap zabz)))))), ?_⟩
 (try dsimp only [cxOf])
 walk_at "rd"
 rename_i md hmd
 have base4 : ∀ (i j sd kk : Int) (H' : Hp), Ch [] H H' → H' fa = some (.ins C dx (fldsF r c t)) := fun _ _ _ _ H' cc => cc.get hf (by simp)
 have m0 : Mt (upd H md (.dT [])) md r c t 0 0 0 0 := ⟨[], zaal, by decide, fun w => by rw [zamh, zary]; rfl⟩
 refine zabf (fun n1 σ H1 => (∃ u1 u2 u3 u4 u5 u6, σ = [some (.ref fa), some (.int (r : Int)), some (.int (c : Int)), some (.int (t : Int)), some (.ref md), u1, u2, u3, u4, u5, u6]) ∧ Ch [] H H1 ∧ Mt H1 md r c t (n1 : Int) 0 0 0) ⟨⟨_, _, _, _, _, _, rfl⟩, Ch.new hmd _, m0⟩ ?_ ?_
 ·rintro n1 σ H1 h1 ⟨⟨u1, u2, u3, u4, u5, u6, rfl⟩, d1, t1'⟩
  have h1 : n1 < r := by simpa using h1
  walk_at "rd"
  refine zabf (fun n2 σ H1 => (∃ u2 u3 u4 u5 u6, σ = [some (.ref fa), some (.int (r : Int)), some (.int (c : Int)), some (.int (t : Int)), some (.ref md), some (.int (0 + (n1 : Int))), u2, u3, u4, u5, u6]) ∧ Ch [] H H1 ∧ Mt H1 md r c t (n1 : Int) (n2 : Int) 0 0) ⟨⟨_, _, _, _, _, rfl⟩, d1, t1'⟩ ?_ ?_
  ·rintro n2 σ H2 h2 ⟨⟨u2, u3, u4, u5, u6, rfl⟩, d2, t2⟩
   have h2 : n2 < c := by simpa using h2
   walk_at "rd"
   refine zabf (fun n3 σ H1 => (∃ u3 u4 u5 u6, σ = [some (.ref fa), some (.int (r : Int)), some (.int (c : Int)), some (.int (t : Int)), some (.ref md), some (.int (0 + (n1 : Int))), some (.int (0 + (n2 : Int))), u3, u4, u5, u6]) ∧ Ch [] H H1 ∧ Mt H1 md r c t (n1 : Int) (n2 : Int) (n3 : Int) 0) ⟨⟨_, _, _, _, rfl⟩, d2, t2⟩ ?_ ?_
   ·rintro n3 σ H3 h3 ⟨⟨u3, u4, u5, u6, rfl⟩, d3, t3⟩
    have h3 : n3 < 4 := by simpa using h3
    walk_at "rd"
    refine zabf (fun n4 σ H1 => (∃ u4 u5 u6, σ = [some (.ref fa), some (.int (r : Int)), some (.int (c : Int)), some (.int (t : Int)), some (.ref md), some (.int (0 + (n1 : Int))), some (.int (0 + (n2 : Int))), some (.int (0 + (n3 : Int))), u4, u5, u6]) ∧ Ch [] H H1 ∧ Mt H1 md r c t (n1 : Int) (n2 : Int) (n3 : Int) (n4 : Int)) ⟨⟨_, _, _, rfl⟩, d3, t3⟩ ?_ ?_
    ·rintro n4 σ H4 h4 ⟨⟨u4, u5, u6, rfl⟩, d4, t4⟩
     have h4 : n4 < t := by simpa using h4
     have hf4 : H4 fa = some (.ins C dx (fldsF r c t)) := d4.get hf (by simp)
     walk_at "rd"
     rename_i b1 hb1 p2 H5 c5 f5 g5 b2 hb2 p4 H6 c6 g6
     have es : sideW (0 + (n1 : Int)) (0 + (n2 : Int)) (0 + (n3 : Int)) (0 + (n4 : Int)) = sideW n1 n2 n3 n4 := by simp only [Int.zero_add]
     rw [es] at g5 g6
     have c56 : Ch [] H5 H6 := (Ch.new hb2 _).trans c6
     have g5' := c56.get g5 (by simp)
     refine ⟨⟨(zalr g5' g6 (by show 4 ≤ 4000; decide)).up⟩, fun H7 c7 => ?_⟩
     have c47 : Ch [] H4 H7 := ((Ch.new hb1 _).trans c5).trans (c56.trans c7)
     have d7 := d4.trans c47
     have gw := c7.get g5' (by simp)
     obtain ⟨kvs, gm, lm, em⟩ := (t4.ch c47).ex
     have ew := em (sideW n1 n2 n3 n4)
     have lz : kvs.length < sizeLine := by rw [sizeLine_eq]; omega
     have stp := zang (r := r) (c := c) (t := t) (i := n1) (j := n2) (sd := n3) (k := n4) (by omega) (by omega)
     clear hb1 c5 f5 g5 hb2 c6 g6 c56 g5' c7 c47 d4 t4 hf4
     walk_at "rd"
     refine ⟨⟨_, _, _, rfl⟩, Ch.own hmd d7, ⟨_, zaal, ?_, fun w' => ?_⟩⟩
     ·have := zadd kvs (wK (sideW n1 n2 n3 n4)) (V.int (cnt r c t (sideW n1 n2 n3 n4) n1 n2 n3 n4 + 1))
      push_cast
      omega
     ·rw [zami]
      by_cases hw : wK w' = wK (sideW n1 n2 n3 n4)
      ·rw [if_pos hw, zard hw]
       push_cast
       rw [stp, if_pos rfl]
       rfl
      ·rw [if_neg hw, em w']
       push_cast
       rw [stp w', if_neg (fun z => hw (by rw [z])), Int.add_zero]
    ·rintro σ H4 ⟨⟨u4, u5, u6, rfl⟩, d4, t4⟩
     refine ⟨⟨_, _, _, _, rfl⟩, d4, ?_⟩
     obtain ⟨kvs, g, l, e⟩ := t4.ex
     rw [Int.toNat_natCast] at l e
     refine ⟨kvs, g, by push_cast; omega, fun w => ?_⟩
     rw [e w, zarv]
     push_cast
     rfl
   ·rintro σ H3 ⟨⟨u3, u4, u5, u6, rfl⟩, d3, t3⟩
    refine ⟨⟨_, _, _, _, _, rfl⟩, d3, ?_⟩
    obtain ⟨kvs, g, l, e⟩ := t3.ex
    rw [show ((Int.toNat 4 : Nat) : Int) = 4 from rfl] at l
    refine ⟨kvs, g, by push_cast; omega, fun w => ?_⟩
    have e := e w
    rw [show ((Int.toNat 4 : Nat) : Int) = 4 from rfl, zarw] at e
    rw [e]
    push_cast
    rfl
  ·rintro σ H2 ⟨⟨u2, u3, u4, u5, u6, rfl⟩, d2, t2⟩
   refine ⟨⟨_, _, _, _, _, _, rfl⟩, d2, ?_⟩
   obtain ⟨kvs, g, l, e⟩ := t2.ex
   rw [Int.toNat_natCast] at l e
   refine ⟨kvs, g, by push_cast; omega, fun w => ?_⟩
   rw [e w, zarx]
   push_cast
   rfl
 ·rintro σ H1 ⟨⟨u1, u2, u3, u4, u5, u6, rfl⟩, d1, t1'⟩
  have rb : r ≤ 10 ∧ c ≤ 10 ∧ t ≤ 8 := ⟨r1, c1, t1⟩
  rw [Int.toNat_natCast] at t1'
  walk_at "rd"
  rename_i l ys H2 c2 f2 g2 lw
  have hll := lw.len
  have e2 := (t1'.ch c2)
  have d2 := d1.trans c2
  clear t1' c2 d1
  refine zagq (xs := ys) (fun n σ H' => (∃ u1 u2 u3 u4 u5 u6, σ = [some (.ref fa), some (.int (r : Int)), some (.int (c : Int)), some (.int (t : Int)), some (.ref md), u1, u2, u3, u4, u5, u6]) ∧ Ch [] H2 H') ⟨⟨_, _, _, _, _, _, rfl⟩, Ch.refl _ _⟩ ?_ ?_ ?_
  ·rintro n σ H' hn ⟨_, cc⟩
   exact SqL.of (cc.get g2 (by simp))
  ·rintro n z σ H' hz ⟨⟨u1, u2, u3, u4, u5, u6, rfl⟩, cc⟩
   have hn : n < (wiresK r c t).length := by rw [← hll]; exact (List.getElem?_eq_some_iff.mp hz).1
   obtain ⟨p, hp, gp⟩ := lw.at (List.getElem?_eq_getElem hn)
   rw [hz] at hp
   cases hp
   obtain ⟨wr, ek, wok⟩ := zaf8 (List.getElem_mem hn)
   rw [ek] at gp
   have gp := cc.get gp (by simp)
   have hf' : H' fa = some (.ins C dx (fldsF r c t)) := (d2.trans cc).get hf (by simp)
   have wo : WOk r c t wr := ⟨wok⟩
   have e3 := e2.ch cc
   walk_at "rd"
   rename_i l3 y3 H3 c3 f3 g3 lw3 l4 y4 H4 c4 f4 g4 lw4
   have bl : (boxesW r c wr).length ≤ 2 := List.length_filter_le _ _
   refine ⟨zag0 (fun k hk => by obtain ⟨b, _, rfl⟩ := List.mem_map.mp hk; show 2 ≤ 4; decide) (by rw [List.length_map]; omega) (c4.get g3 (by simp)) g4 (lw3.ch c4) lw4, fun H5 c5 => ?_⟩
   have c35 := c4.trans c5
   have g5 := c35.get g3 (by simp)
   have gp5 := (c3.trans c35).get gp (by simp)
   obtain ⟨kvs, gm, lm, em⟩ := (e3.ch (c3.trans c35)).ex
   have ew := em wr
   rw [zapz wok] at ew
   have l3n := lw3.len
   rw [List.length_map] at l3n
   have d5 := cc.trans (c3.trans c35)
   have f2' := chFree cc f3
   clear c3 c4 c5 c35 g3 g4 lw3 lw4 gp wo e3 em
   have ly : y3.length < sizeLine := by rw [sizeLine_eq]; omega
   walk_at "rd"
   rw [ew, ← l3n]
   walk_at "rd"
   refine iteNn rfl ?_
   walk_at "rd"
   exact ⟨⟨_, _, _, _, _, _, rfl⟩, Ch.own f2' d5⟩
  ·rintro σ H' ⟨⟨u1, u2, u3, u4, u5, u6, rfl⟩, cc⟩
   walk_at "rd"
   exact q _ (d2.trans cc)
end
end

section
structure PAt (r c n : Nat) (a b : Int) : Prop where
 h : (padsK r c)[n]? = some (bxK (a, b))
def spPadW (C : Addr) : Sp := fun vs H Q _ => ∃ (fa dx : Addr) (r c t n : Nat) (a b pad : Int), vs = [.ref fa, .int pad] ∧ H fa = some (.ins C dx (fldsF r c t)) ∧ (r ≤ 10 ∧ c ≤ 10 ∧ t ≤ 8) ∧ PAt r c n a b ∧ pad = (n : Int) ∧ ∀ l ys H', Ch [] H H' → H l = none → H' l = some (.lst ys) → LW H' (padK r c t a b) ys → Q (.ref l) H'
theorem zalt {C CO : Addr} : ∀ vs H Q E, spPadW C vs H Q E → spPadWX C CO vs H Q E0 := fun vs H Q E ⟨fa, dx, r, c, t, n, a, b, pad, e, h1, hb, ⟨hk⟩, ep, q⟩ =>
 ⟨fa, dx, r, c, t, pad, e, h1, hb, fun m a' b' em hk' => by
  have emn : m = n := by omega
  rw [emn, hk] at hk'
  have : a = a' ∧ b = b' := by simpa [bxK] using hk'
  rw [← this.1, ← this.2]
  exact q, fun z => by
   have := (List.getElem?_eq_some_iff.mp hk).1
   rw [zacn] at this
   rw [ep] at z
   simp [belB] at z
   omega⟩
section
variable {P : Program} {w : World} {K : PySem.W.Frag} {mg : Str → Option Value} {base : Heap} {f : Addr} {fd : FuncData} {k : Nat}
theorem zad5 : Nd "_law_due_pads" := by decide +kernel
theorem zaen : Nd "_law_due_pad" := by decide +kernel
theorem av38 : AF (defScope (top 38)) ["_law_floor", "_law_rows", "_law_columns", "_law_tracks", "_law_spots", "_law_turn", "_law_found", "_law_pad", "_law_wires"] := ⟨by decide +kernel⟩
theorem gl38 : AG (defScope (top 38)) ["_law_due_pads", "range", "pads_of", "_law_same", "len", "pad_wires", "_law_due_pad"] := ⟨by decide +kernel⟩
def spLPads (C : Addr) : Sp := fun vs H Q _ => ∃ (fa dx : Addr) (r c t : Nat), vs = [.ref fa, .int (r : Int), .int (c : Int), .int (t : Int)] ∧ H fa = some (.ins C dx (fldsF r c t)) ∧ (r ≤ 10 ∧ c ≤ 10 ∧ t ≤ 8) ∧ ∀ H', Ch [] H H' → Q (.bl true) H'
theorem scLPads : FnScope ["_law_floor", "_law_rows", "_law_columns", "_law_tracks", "_law_spots", "_law_turn", "_law_found", "_law_pad", "_law_wires"] ["_law_floor", "_law_rows", "_law_columns", "_law_tracks"] (defScope (top 38)) := ⟨rfl, rfl, rfl, by decide +kernel, rfl, by decide +kernel, by decide +kernel⟩
theorem zanh {C : Addr} (F : Fun K "_law_pads" "_law_pads" (top 38) f fd) (Dpads_of : DefOk P w K mg base CX0 k "pads_of" ["floor"] (spPads C)) (Dpad_wires : DefOk P w K mg base CX0 k "pad_wires" ["floor", "pad"] (spPadW C)) (D_law_same : DefOk P w K mg base CX0 k "_law_same" ["_law_found", "_law_due"] (spSame 3)) (D_law_due_pads : DefOk P w K mg base CX0 k "_law_due_pads" ["_law_rows", "_law_columns"] spDueP) (D_law_due_pad : DefOk P w K mg base CX0 k "_law_due_pad" ["_law_rows", "_law_columns", "_law_spot", "_law_tracks"] spDueQ)
  (z_range : mg "range" = none) (z_len : mg "len" = none) : FnOk P w K mg base CX0 (k + 1) f fd ["_law_floor", "_law_rows", "_law_columns", "_law_tracks"] (spLPads C) := by
 have nd := scLPads.nd
 refine F.ok scLPads (fun vs H Q E h => by obtain ⟨fa, dx, r, c, t, rfl, _⟩ := h; rfl) (fun cdv A outer s H vs Q E hr h => ?_)
 obtain ⟨fa, dx, r, c, t, rfl, hf, ⟨r1, c1, t1⟩, q⟩ := h
 have rb : r ≤ 10 ∧ c ≤ 10 ∧ t ≤ 8 := ⟨r1, c1, t1⟩
 have rc : r ≤ 10 ∧ c ≤ 10 := ⟨r1, c1⟩
 refine ⟨_, (Pr.h (zaaf (zaav (i := 4) nd rfl (av38.l 4 rfl) (zaan D_law_due_pads hr (gl38.g 0 rfl) pass0 (zaaa (qv av38 1 rfl) (zaaa (qv av38 2 rfl) zaab zaac) zaac) zad5)) (zaaf (zabk PassesOwn.never rfl (zaaz (gl38.g 1 rfl) z_range (zaaa zaad zaab zaae)) (zaao (i := 5) nd rfl (av38.l 5 rfl)) (zaaf (zaav (i := 6) nd rfl (av38.l 6 rfl) (zaan Dpads_of hr (gl38.g 2 rfl) pass0 (zaaa (qv av38 0 rfl) zaab zaac) zae3)) (zaaf (zaa4 (zabj (zaa3 (zaan D_law_same hr (gl38.g 3 rfl) pass0 (zaaa (qv av38 6 rfl) (zaaa (qv av38 4 rfl) zaab zaac) zaac) zaa8))) (zaak (zaap zabz)) zaas) (zaaf (zacp (zahd (qv av38 6 rfl))) (zaak (zabk PassesOwn.never rfl (zaaz (gl38.g 1 rfl) z_range (zaaa (zaaj zaau (gl38.g 4 rfl) z_len PySem.boot_len (zaaa (qv av38 4 rfl) zaab zaac) zab0 zab1) zaab zabt)) (zaao (i := 7) nd rfl (av38.l 7 rfl)) (zaaf (zaav (i := 8) nd rfl (av38.l 8 rfl) (zaan Dpad_wires hr (gl38.g 5 rfl) pass0 (zaaa (qv av38 0 rfl) (zaaa (qv av38 7 rfl) zaab zaac) zaac) zad1)) (zaaf (zaa4 (zabj (zaa3 (zaan D_law_same hr (gl38.g 3 rfl) pass0 (zaaa (qv av38 8 rfl) (zaaa (zaan D_law_due_pad hr (gl38.g 6 rfl) pass0 (zaaa (qv av38 1 rfl) (zaaa (qv av38 2 rfl) (zaaa (zaa1 zabn (qv av38 4 rfl) (qv av38 7 rfl) (fun _ _ => rfl)) (zaaa (qv av38 3 rfl) zaab zaac) zaat) zaac) zaac) zaen) zaab zabt) zaac) zaa8))) (zaak (zaap zabz)) zaas) (zaak (zacp (zaex PySem.F.plainAttrs_list PySem.F.slot_list_append PySem.F.type_list_append zagm (qv av38 8 rfl) (zaaa zacy zaab zaae)))))))))))) (zaak (zaap zabz))))), ?_⟩
 (try dsimp only [cxOf])
 walk_at "rd"
 rename_i sl ys H1 d1 f1 g1 lw1
 have hl1 := lw1.len
 rw [zacn] at hl1
 have kl : ∀ k ∈ padsK r c, k.length ≤ 4 := fun k hk => by obtain ⟨a, b, rfl, _⟩ := zael hk; show 2 ≤ 4; decide
 refine zabf (fun n σ H' => (∃ u1 u2 u3 u4, σ = [some (.ref fa), some (.int (r : Int)), some (.int (c : Int)), some (.int (t : Int)), some (.ref sl), u1, u2, u3, u4]) ∧ Ch [] H1 H') ⟨⟨_, _, _, _, rfl⟩, Ch.refl _ _⟩ ?_ ?_
 ·rintro n σ H2 hn ⟨⟨u1, u2, u3, u4, rfl⟩, c2⟩
  have hf2 : H2 fa = some (.ins C dx (fldsF r c t)) := (d1.trans c2).get hf (by simp)
  walk_at "rd"
  rename_i l3 y3 H3 c3 f3 g3 lw3
  have c13 := c2.trans c3
  refine ⟨zag0 kl (by rw [zacn]; omega) g3 (c13.get g1 (by simp)) lw3 (lw1.ch c13), fun H4 c4 => ?_⟩
  have g4 := c4.get g3 (by simp)
  have c14 := c13.trans c4
  have s4 := c14.get g1 (by simp)
  have f13 := chFree c2 f3
  have ne : sl ≠ l3 := zabd g1 f13
  clear c2 c3 g3 lw3 hf2 c4 c13 f3
  walk_at "rd"
  refine zabf (fun m σ H' => (∃ u1 u2 u3 u4, σ = [some (.ref fa), some (.int (r : Int)), some (.int (c : Int)), some (.int (t : Int)), some (.ref sl), u1, u2, u3, u4]) ∧ Ch [] H1 H') ⟨⟨_, _, _, _, rfl⟩, Ch.own f13 c14⟩ ?_ ?_
  ·rintro m σ H5 hm ⟨⟨u1, u2, u3, u4, rfl⟩, c5⟩
   have hm : m < (padsK r c).length := by rw [zacn, ← hl1]; simpa using hm
   obtain ⟨a, b, ek, sp⟩ := zael (List.getElem_mem hm)
   have hk : (padsK r c)[m]? = some (bxK (a, b)) := by rw [List.getElem?_eq_getElem hm, ek]
   have pa : PAt r c m a b := ⟨hk⟩
   obtain ⟨p, hp, gp⟩ := lw1.at hk
   have hf5 : H5 fa = some (.ins C dx (fldsF r c t)) := (d1.trans c5).get hf (by simp)
   have g5 := c5.get g1 (by simp)
   have em : (0 : Int) + (m : Int) = (m : Int) := by omega
   have hp : atI ys (0 + (m : Int)) = some (.ref p) := by rw [em]; exact zafa hp
   walk_at "rd"
   rename_i l6 y6 H6 c6 f6 g6 lw6 l7 y7 H7 c7 f7 g7 lw7
   have l6n := lw6.len
   have pl : (padK r c t a b).length = t := zabc _ _ _
   refine ⟨zag0 (fun k hk => by obtain ⟨x, _, rfl⟩ := zadg hk; show 4 ≤ 4; decide) (by omega) (c7.get g6 (by simp)) g7 (lw6.ch c7) lw7, fun H8 c8 => ?_⟩
   have g8 := (c7.trans c8).get g6 (by simp)
   have c18 := c5.trans (c6.trans (c7.trans c8))
   have f18 := chFree c5 f6
   have ly : y6.length < sizeLine := by rw [sizeLine_eq]; omega
   clear c6 c7 c8 g6 g7 lw6 lw7 hf5 g5
   walk_at "rd"
   exact ⟨⟨_, _, _, _, rfl⟩, Ch.own f18 c18⟩
  ·rintro σ H5 ⟨⟨u1, u2, u3, u4, rfl⟩, c5⟩
   exact ⟨⟨_, _, _, _, rfl⟩, c5⟩
 ·rintro σ H2 ⟨⟨u1, u2, u3, u4, rfl⟩, c2⟩
  walk_at "rd"
  exact q _ (d1.trans c2)
end
end

section
local macro_rules | `(tactic| walk_at "user") => `(tactic| fail)
theorem zani {k : Key} {a b : List Key} (h : kLex a b) : kLex (k :: a) (k :: b) := by unfold kLex; rw [if_pos rfl]; exact h
theorem zap0 {x y : Int} {a b : List Key} (h : x < y) : kLex (.inl x :: a) (.inl y :: b) := by
 unfold kLex
 rw [if_neg (fun z => by have := Sum.inl.inj z; omega)]
 exact h
theorem zaf9 (hv : Bool) {i i' j j' k k' : Int} (h : i < i' ∨ (i = i' ∧ (j < j' ∨ (j = j' ∧ k < k')))) : kLex (wK (hv, i, j, k)) (wK (hv, i', j', k')) := by
 refine zani ?_
 rcases h with h | ⟨rfl, h | ⟨rfl, h⟩⟩
 ·exact zap0 h
 ·exact zani (zap0 h)
 ·exact zani (zani (zap0 h))
theorem zarz (a b c a' b' c' : Int) : kLex (wK (true, a, b, c)) (wK (false, a', b', c')) := by
 show kLex (.inr "h" :: _) (.inr "v" :: _)
 unfold kLex
 rw [if_neg (by decide +kernel)]
 show kLt (.inr "h") (.inr "v")
 decide +kernel
theorem zap1 {lo : Int} {g : Int → List Wr} (h1 : ∀ x, (g x).Pairwise kLex) (h2 : ∀ x y, x < y → ∀ a ∈ g x, ∀ b ∈ g y, kLex a b) : ∀ n, (fl lo n g).Pairwise kLex
 | 0 => .nil
 | n + 1 => by
  rw [zac3, List.pairwise_append]
  refine ⟨zap1 h1 h2 n, h1 _, fun a ha b hb => ?_⟩
  simp only [fl, List.mem_flatten, List.mem_map, List.mem_range] at ha
  obtain ⟨_, ⟨m, hm, rfl⟩, ha⟩ := ha
  exact h2 _ _ (by omega) a ha b hb
theorem zan1 {lo : Int} {g : Int → Wr} (h : ∀ x y, x < y → kLex (g x) (g y)) : ∀ n, (rng lo n g).Pairwise kLex
 | 0 => .nil
 | n + 1 => by
  rw [zabp, List.pairwise_append]
  refine ⟨zan1 h n, List.pairwise_singleton _ _, fun a ha b hb => ?_⟩
  obtain ⟨m, hm, rfl⟩ := zadg ha
  rw [List.mem_singleton.mp hb]
  exact h _ _ (by omega)
theorem zan2 {lo : Int} {n : Nat} {g : Int → List Wr} {k : Wr} (h : k ∈ fl lo n g) : ∃ x, k ∈ g x := by
 simp only [fl, List.mem_flatten, List.mem_map, List.mem_range] at h
 obtain ⟨_, ⟨m, hm, rfl⟩, h⟩ := h
 exact ⟨_, h⟩
theorem zahz {hv : Bool} {t : Nat} {i j : Int} {k : Wr} (h : k ∈ trk hv t i j) : ∃ x, k = wK (hv, i, j, x) := let ⟨_, _, e⟩ := zadg h; ⟨_, e⟩
theorem zaga {hv : Bool} {c t : Nat} {i : Int} {k : Wr} (h : k ∈ colsK hv c t i) : ∃ j x, k = wK (hv, i, j, x) := let ⟨j, h⟩ := zan2 h; let ⟨x, e⟩ := zahz h; ⟨j, x, e⟩
theorem zaik {hv : Bool} {r c t : Nat} {k : Wr} (h : k ∈ halfK hv r c t) : ∃ i j x, k = wK (hv, i, j, x) := let ⟨i, h⟩ := zan2 h; let ⟨j, x, e⟩ := zaga h; ⟨i, j, x, e⟩
theorem zalu (hv : Bool) (r c t : Nat) : (halfK hv r c t).Pairwise kLex := by
 refine zap1 (fun i => zap1 (fun j => zan1 (fun x y h => zaf9 hv (.inr ⟨rfl, .inr ⟨rfl, h⟩⟩)) _) (fun x y h a ha b hb => ?_) _) (fun x y h a ha b hb => ?_) _
 ·obtain ⟨k, rfl⟩ := zahz ha
  obtain ⟨k', rfl⟩ := zahz hb
  exact zaf9 hv (.inr ⟨rfl, .inl h⟩)
 ·obtain ⟨j, k, rfl⟩ := zaga ha
  obtain ⟨j', k', rfl⟩ := zaga hb
  exact zaf9 hv (.inl h)
theorem zare (r c t : Nat) : (wiresK r c t).Pairwise kLex := by
 rw [wiresK, List.pairwise_append]
 refine ⟨zalu _ _ _ _, zalu _ _ _ _, fun a ha b hb => ?_⟩
 obtain ⟨i, j, k, rfl⟩ := zaik ha
 obtain ⟨i', j', k', rfl⟩ := zaik hb
 exact zarz _ _ _ _ _ _
theorem zalv {lo : Int} {g : Int → List Wr} {b : Nat} (h : ∀ x, b ≤ (g x).length) : ∀ n, n * b ≤ (fl lo n g).length
 | 0 => by simp
 | n + 1 => by
  rw [zac3, List.length_append, Nat.add_mul, Nat.one_mul]
  have := zalv (lo := lo) h n
  have := h (lo + (n : Int))
  omega
theorem zalw {r c t : Nat} (hr : 1 ≤ r) (hc : 1 ≤ c) (ht : 1 ≤ t) : 2 ≤ (wiresK r c t).length := by
 rw [wiresK, List.length_append]
 have h1 : ∀ i, 2 ≤ (colsK true c t i).length := fun i => by
  have := zalv (lo := lo true) (g := fun j => trk true t i j) (b := 1) (fun x => by rw [zaek]; exact ht) (c + 1)
  have e : (colsK true c t i).length = (fl (lo true) (c + 1) fun j => trk true t i j).length := rfl
  omega
 have := zalv (lo := lo !true) (g := fun i => colsK true c t i) (b := 2) h1 (r + 0)
 have e : (halfK true r c t).length = (fl (lo !true) (r + 0) fun i => colsK true c t i).length := rfl
 omega
theorem zanj {r c t : Nat} (hr : r ≤ 10) (hc : c ≤ 10) (ht : t ≤ 8) : (wiresK r c t).length ≤ 1936 := by
 rw [wiresK, List.length_append]
 have := zaft true hr hc ht
 have := zaft false hr hc ht
 omega
theorem zalx {r c t : Nat} : ∀ k ∈ wiresK r c t, k.length ≤ 4 := fun k hk => by
 obtain ⟨w, rfl, _⟩ := zaf8 hk
 exact Nat.le_refl 4
theorem zank {H : Hp} {l1 l2 : Addr} {r c t : Int} (g1 : H l1 = some (.lst [.int r, .int c, .int t])) (g2 : H l2 = some (.lst [.int r, .int c, .int t])) : EqvS 3 H (.ref l1) (.ref l2) :=
 ⟨.inr (.inr ⟨l1, l2, _, _, rfl, rfl, g1, g2, zaca (fun _ _ => Eqv.up) (zaf6 [.inl r, .inl c, .inl t]), by show 3 ≤ 4000; decide⟩)⟩
structure Box (Pd : Prop) : Prop where
 h : Pd
theorem zail {m : Int} (h : 0 ≤ m) : ∃ n : Nat, m = (n : Int) := ⟨m.toNat, by omega⟩
structure SzOk (r c t : Int) : Prop where
 h : sizeB r c t = true
def spFloor (C : Addr) : Sp := fun vs H Q _ => ∃ (x dx : Addr) (r c t : Int), vs = [.ref x, .int r, .int c, .int t] ∧ H x = some (.ins C dx []) ∧ SzOk r c t ∧ ∀ H', Ch [x] H H' → H' x = some (.ins C dx (fldsF r c t)) → Q .non H'
theorem zai4 {C CN : Addr} : ∀ vs H Q E, spFloor C vs H Q E → spFloorX C CN vs H Q E0 := fun vs H Q E ⟨x, dx, r, c, t, e, h, ⟨ok⟩, q⟩ => ⟨x, dx, r, c, t, e, h, fun _ => q, fun z => absurd (ok.symm.trans z) (by decide)⟩
section
variable {P : Program} {w : World} {K : PySem.W.Frag} {mg : Str → Option Value} {base : Heap} {f : Addr} {fd : FuncData} {k : Nat}
theorem zag1 : Nd "_law_next" := by decide +kernel
theorem zaeo : Nd "wires_of" := by decide +kernel
theorem zaly : bootBuiltins "sorted" = some (.builtin "sorted") := by decide +kernel
theorem zalz : ("sorted" : Str) ≠ "__name__" := by decide +kernel
theorem zal0 : Nd "sorted" := by decide +kernel
theorem zaep : Nd "_law_strange" := by decide +kernel
theorem zaer : Nd "_law_caught" := by decide +kernel
theorem zag2 : Nd "_law_pads" := by decide +kernel
theorem zaes : Nd "_law_walked" := by decide +kernel
theorem zagb : Nd "_law_round" := by decide +kernel
theorem av40 : AF (defScope (top 40)) ["_law_script", "_law_at", "_law_m", "_law_rows", "_law_columns", "_law_tracks", "_law_floor", "_law_found", "_law_due", "_law_strange_here", "_law_which", "_law_thing"] := ⟨by decide +kernel⟩
theorem gl40 : AG (defScope (top 40)) ["_law_next", "Floor", "_law_same", "wires_of", "_law_due_wires", "sorted", "_law_strange", "range", "_law_caught", "_law_pads", "_law_walked"] := ⟨by decide +kernel⟩
def spRnd (K : PySem.W.Frag) : Sp := fun vs H Q _ => ∃ (a b : Addr) (ns : List Int) (c : Int), vs = [.ref a, .ref b] ∧ Scr K H a ns ∧ H b = some (.lst [.int c]) ∧ 0 ≤ c ∧ c < 2 ^ 50 ∧ ∀ H', Ch [b] H H' → H' b = some (.lst [.int (c + 1)]) → Q (.bl true) H'
theorem scRnd : FnScope ["_law_script", "_law_at", "_law_m", "_law_rows", "_law_columns", "_law_tracks", "_law_floor", "_law_found", "_law_due", "_law_strange_here", "_law_which", "_law_thing"] ["_law_script", "_law_at"] (defScope (top 40)) := ⟨rfl, rfl, rfl, by decide +kernel, rfl, by decide +kernel, by decide +kernel⟩
theorem zarf {C : Addr} (F : Fun K "_law_round" "_law_round" (top 40) f fd) (cl : Cls K C) (nR : NoAttr K C "rows") (nC : NoAttr K C "columns") (nT : NoAttr K C "tracks") (D_law_next : DefOk P w K mg base CX0 (k + 1) "_law_next" ["_law_script", "_law_at"] (spNext K)) (MkFloor : MakeOk P w K mg base CX0 k C "Floor" ["self", "rows", "columns", "tracks"] (spFloor C)) (D_law_same : DefOk P w K mg base CX0 (k + 1) "_law_same" ["_law_found", "_law_due"] (spSame 3)) (Dwires_of : DefOk P w K mg base CX0 (k + 1) "wires_of" ["floor"] (spWires C))
  (D_law_due_wires : DefOk P w K mg base CX0 (k + 1) "_law_due_wires" ["_law_rows", "_law_columns", "_law_tracks"] spDueW) (D_law_strange : DefOk P w K mg base CX0 (k + 1) "_law_strange" ["_law_m", "_law_rows", "_law_columns", "_law_tracks"] spStr) (D_law_caught : DefOk P w K mg base CX0 (k + 1) "_law_caught" ["_law_floor", "_law_which", "_law_thing"] (spCaught C)) (D_law_walked : DefOk P w K mg base CX0 (k + 1) "_law_walked" ["_law_floor", "_law_rows", "_law_columns", "_law_tracks"] (spWalked C)) (D_law_pads : DefOk P w K mg base CX0 (k + 1) "_law_pads" ["_law_floor", "_law_rows", "_law_columns", "_law_tracks"] (spLPads C))
  (z_range : mg "range" = none) (z_sorted : mg "sorted" = none) : FnOk P w K mg base CX0 (k + 2) f fd ["_law_script", "_law_at"] (spRnd K) := by
 have nd := scRnd.nd
 refine F.ok scRnd (fun vs H Q E h => by obtain ⟨a, b, ns, c, rfl, _⟩ := h; rfl) (fun cdv A outer s H vs Q E hr h => ?_)
 obtain ⟨a, b, ns, cn, rfl, hS, hb, c0, c1, q⟩ := h
 have hrm := hr
 refine ⟨_, (Pr.h (zaaf (zaav (i := 2) nd rfl (av40.l 2 rfl) (zaan D_law_next hr (gl40.g 0 rfl) pass0 (zaaa (qv av40 0 rfl) (zaaa (qv av40 1 rfl) zaab zaac) zaac) zag1)) (zaaf (zaav (i := 3) nd rfl (av40.l 3 rfl) (zaaq zabw zaad (zaaq zacu (qv av40 2 rfl) zaad))) (zaaf (zaav (i := 4) nd rfl (av40.l 4 rfl) (zaaq zabw zaad (zaaq zacu (zaaq zacx (qv av40 2 rfl) zaad) zaad))) (zaaf (zaav (i := 5) nd rfl (av40.l 5 rfl) (zaaq zabw zaad (zaaq zacu (zaaq zacx (qv av40 2 rfl) zaad) zaad))) (zabo (zaa4 (zaaw zaog (zaaq zadi (zaaq zadi (qv av40 3 rfl) (qv av40 4 rfl)) (qv av40 5 rfl)) zaad (nomark _)) (zaak (zaav (i := 5) nd rfl (av40.l 5 rfl) (zaaq zabw zaad (zaaq zacu (zaaq zacx (qv av40 2 rfl) zaad) zaad)))) zaas) (zaaf (zaav (i := 6) nd rfl (av40.l 6 rfl) (zaj0 MkFloor hrm (gl40.g 1 rfl) pass0 (zaaa (qv av40 3 rfl) (zaaa (qv av40 4 rfl) (zaaa (qv av40 5 rfl) zaab zaac) zaac) zaac) zaij)) (zaaf (zaa4 (zabj (zaa3 (zaan D_law_same hr (gl40.g 2 rfl) pass0 (zaaa (zabm (zaaa (zabq (qv av40 6 rfl) rfl) (zaaa (zabq (qv av40 6 rfl) rfl) (zaaa (zabq (qv av40 6 rfl) rfl) zaab zaa0) zaa0) zaa0)) (zaaa (zabm (zaaa (qv av40 3 rfl) (zaaa (qv av40 4 rfl) (zaaa (qv av40 5 rfl) zaab zaac) zaac) zaac)) zaab zag7) zag7) zaa8))) (zaak (zaap zabz)) zaas) (zaaf (zaav (i := 7) nd rfl (av40.l 7 rfl) (zaan Dwires_of hr (gl40.g 3 rfl) pass0 (zaaa (qv av40 6 rfl) zaab zaac) zaeo)) (zaaf (zaav (i := 8) nd rfl (av40.l 8 rfl) (zaan D_law_due_wires hr (gl40.g 4 rfl) pass0 (zaaa (qv av40 3 rfl) (zaaa (qv av40 4 rfl) (zaaa (qv av40 5 rfl) zaab zaac) zaac) zaac) zacv)) (zaaf (zaa4 (zab8 (zab9 (zabj (zaa3 (zaan D_law_same hr (gl40.g 2 rfl) pass0 (zaaa (qv av40 7 rfl) (zaaa (qv av40 8 rfl) zaab zaac) zaac) zaa8))) (zabx (zaaw (zara hr.units) (qv av40 7 rfl) (zaaj zagu (gl40.g 5 rfl) z_sorted zaly (zaaa (qv av40 7 rfl) zaab zaac) zalz zal0) (nomark _))))) (zaak (zaap zabz)) zaas) (zaaf (zacp (zaj9 (qv av40 7 rfl))) (zaaf (zaa4 (zabj (zaa3 (zaan D_law_same hr (gl40.g 2 rfl) pass0 (zaaa (zaan Dwires_of hr (gl40.g 3 rfl) pass0 (zaaa (qv av40 6 rfl) zaab zaac) zaeo) (zaaa (qv av40 8 rfl) zaab zaac) zabt) zaa8))) (zaak (zaap zabz)) zaas) (zaaf (zaav (i := 9) nd rfl (av40.l 9 rfl) (zaan D_law_strange hr (gl40.g 6 rfl) pass0 (zaaa (zaaq zacx (qv av40 2 rfl) zaad) (zaaa (qv av40 3 rfl) (zaaa (qv av40 4 rfl) (zaaa (qv av40 5 rfl) zaab zaac) zaac) zaac) zaa7) zaep)) (zaaf (zabk PassesOwn.never rfl (zaaz (gl40.g 7 rfl) z_range (zaaa zaad zaab zaae)) (zaao (i := 10) nd rfl (av40.l 10 rfl)) (zaak (zabk PassesOwn.never rfl (zacz (zaa1 zaa9 (qv av40 9 rfl) (qv av40 10 rfl) (fun _ _ => rfl))) (zaao (i := 11) nd rfl (av40.l 11 rfl)) (zaak (zaa4 (zabj (zaa3 (zaan D_law_caught hr (gl40.g 8 rfl) pass0 (zaaa (qv av40 6 rfl) (zaaa (qv av40 10 rfl) (zaaa (qv av40 11 rfl) zaab zaac) zaac) zaac) zaer))) (zaak (zaap zabz)) zaas))))) (zaak (zaap (zabv (zaan D_law_walked hr (gl40.g 10 rfl) pass0 (zaaa (qv av40 6 rfl) (zaaa (qv av40 3 rfl) (zaaa (qv av40 4 rfl) (zaaa (qv av40 5 rfl) zaab zaac) zaac) zaac) zaac) zaes) (zab6 (zaan D_law_pads hr (gl40.g 9 rfl) pass0 (zaaa (qv av40 6 rfl) (zaaa (qv av40 3 rfl) (zaaa (qv av40 4 rfl) (zaaa (qv av40 5 rfl) zaab zaac) zaac) zaac) zaac) zag2)))))))))))))))))))), ?_⟩
 (try dsimp only [cxOf])
 have bx : Box (Scr K H a ns) := ⟨hS⟩
 clear hS
 walk_at "rd"
 refine ⟨bx.h, hb, by omega, by omega, fun m H1 m0 m1 d1 b1 => ?_⟩
 obtain ⟨r, er⟩ := zail (show 0 ≤ 1 + m % 10 by omega)
 obtain ⟨c, ec⟩ := zail (show 0 ≤ 1 + m / 10 % 10 by omega)
 walk_at "rd"
 refine zach (fun σ H' => Box (∃ t : Nat, σ = [some (.ref a), some (.ref b), some (.int m), some (.int (r : Int)), some (.int (c : Int)), some (.int (t : Int)), none, none, none, none, none, none] ∧ H' = H1 ∧ 1 ≤ t ∧ t ≤ 8)) ?_ ?_
 ·dsimp only
  rw [er, ec]
  obtain ⟨t, et⟩ := zail (show 0 ≤ 1 + m / 100 % 8 by omega)
  obtain ⟨t2, et2⟩ := zail (show 0 ≤ 1 + m / 100 % 2 by omega)
  walk_at "rd"
  refine ite2 (fun _ => ?_) (fun _ => ?_)
  ·walk_at "rd"
   exact ⟨t2, by rw [← et2]; rfl, rfl, by omega, by omega⟩
  ·exact ⟨t, by rw [← et]; rfl, rfl, by omega, by omega⟩
 rintro σ H' ⟨t, rfl, rfl, t1, t2⟩
 have rr : 1 ≤ r ∧ r ≤ 10 := by omega
 have rc : 1 ≤ c ∧ c ≤ 10 := by omega
 clear er ec
 have rb : r ≤ 10 ∧ c ≤ 10 ∧ t ≤ 8 := ⟨by omega, by omega, t2⟩
 have sz : SzOk r c t := ⟨by simp [sizeB, szB]; omega⟩
 have fr := zacm r c t
 have fc := zab4 r c t
 have ft := zaci r c t
 walk_at "rd"
 rename_i fa dx hx hdx nx H2 d2 g2 l1 h1 l2 h2
 refine ⟨zank (zabe h2 zaal) zaal, fun H3 d3 => ?_⟩
 have c2 : Ch [] H' H2 := Ch.made hx hdx nx d2
 have c23 : Ch [] H2 H3 := ((Ch.new h1 _).trans (Ch.new h2 _)).trans d3
 have c3 := c2.trans c23
 have f3 := c23.get g2 (by simp)
 clear d2 d3 h1 h2 hx hdx nx c2 c23 g2 fr fc ft sz
 walk_at "rd"
 rename_i l4 y4 H4 c4 f4 g4 lw4 l5 y5 H5 c5 f5 g5 lw5
 have wl := zanj rb.1 rb.2.1 rb.2.2
 refine ⟨zag0 zalx (by omega) (c5.get g4 (by simp)) g5 (lw4.ch c5) lw5, fun H6 c6 => ?_⟩
 have c46 := c5.trans c6
 have ws := (lw4.ch c46).ex
 obtain ⟨ps, ey, ws⟩ := ws
 have g6 : H6 l4 = some (.lst (ps.map V.ref)) := by rw [← ey]; exact c46.get g4 (by simp)
 have k5 := c6.get g5 (by simp)
 have lw6 := lw5.ch c6
 have f6 := (c4.trans c46).get f3 (by simp)
 have c16 := c3.trans (c4.trans c46)
 have n45 : l5 ≠ l4 := (zabd g4 f5).symm
 have f14 := chFree c3 f4
 clear c4 c5 c6 g4 g5 lw4 lw5 c46 c3 f3 f4 f5 ey
 have tw := zalw rr.1 rc.1 t1
 have sh : ∀ k ∈ wiresK r c t, k.map Sum.isLeft = false :: [true, true, true] := fun k hk => by obtain ⟨w, rfl, _⟩ := zaf8 hk; rfl
 have up := zare r c t
 walk_at "rd"
 rename_i D hD l7 y7 H7 c7 f7 g7 lw7
 have gD := zabe hD g6 (u := .lst (ps.map V.ref))
 have lw57 := ((lw6.ch (Ch.new hD (.lst (ps.map V.ref)))).put (zs := []) gD).ch c7
 have k7 := c7.get (zaoy n45 (zabe hD k5)) (by simp)
 have nf : fa ≠ l4 := zal2 f6 g6 (by intro z; cases z)
 refine ⟨zag0 zalx (by omega) g7 k7 lw7 lw57, fun H8 c8 => ?_⟩
 have c18 : Ch [] H' H8 := ((Ch.own f14 (c16.trans (Ch.new hD _))).trans c7).trans c8
 have f8 := (c7.trans c8).get (zaoy nf (zabe hD f6)) (by simp)
 have b8 := c18.get b1 (by simp)
 have e8 : Ch [b] H H8 := d1.trans c18.wk
 clear c7 c8 g7 lw7 lw57 k7 gD hD f7 n45 f14 c16 f6 lw6 k5 g6 ws tw sh up nf wl c18 b1 d1
 walk_at "rd"
 rename_i T H9 c9 st
 obtain ⟨l0, l1, l2, l3, v0, v1, v2, v3, gT, s0, s1, s2, s3⟩ := st.ex
 have lists : ∀ n : Nat, n < 4 → ∃ l vs, atI [V.ref l0, V.ref l1, V.ref l2, V.ref l3] (0 + (n : Int)) = some (.ref l) ∧ SI r c t n H9 l vs := fun n hn => by
  match n, hn with
  | 0, _ => exact ⟨l0, v0, rfl, s0⟩
  | 1, _ => exact ⟨l1, v1, rfl, s1⟩
  | 2, _ => exact ⟨l2, v2, rfl, s2⟩
  | 3, _ => exact ⟨l3, v3, rfl, s3⟩
 have bl : Box (∀ n : Nat, n < 4 → ∃ l vs, atI [V.ref l0, V.ref l1, V.ref l2, V.ref l3] (0 + (n : Int)) = some (.ref l) ∧ SI r c t n H9 l vs) := ⟨lists⟩
 clear lists s0 s1 s2 s3 st
 refine zabf (fun n σ H' => (∃ u1 u2, σ = [some (.ref a), some (.ref b), some (.int m), some (.int (r : Int)), some (.int (c : Int)), some (.int (t : Int)), some (.ref fa), some (.ref l4), some (.ref l5), some (.ref T), u1, u2]) ∧ Ch [] H9 H') ⟨⟨_, _, rfl⟩, Ch.refl _ _⟩ ?_ ?_
 ·rintro n σ H10 hn ⟨⟨u1, u2, rfl⟩, c10⟩
  have hn : n < 4 := by simpa using hn
  obtain ⟨l, vs, hl, si⟩ := bl.h n hn
  have g10 := c10.get gT (by simp)
  have gl := c10.get si.g (by simp)
  walk_at "rd"
  refine zagq (xs := vs) (fun n2 σ H' => (∃ u2, σ = [some (.ref a), some (.ref b), some (.int m), some (.int (r : Int)), some (.int (c : Int)), some (.int (t : Int)), some (.ref fa), some (.ref l4), some (.ref l5), some (.ref T), some (.int (0 + (n : Int))), u2]) ∧ Ch [] H9 H') ⟨⟨_, rfl⟩, c10⟩ ?_ ?_ ?_
  ·rintro n2 σ H11 hn ⟨_, c11⟩
   exact SqL.of (c11.get si.g (by simp))
  ·rintro n2 z σ H11 hz ⟨⟨u2, rfl⟩, c11⟩
   have ss : StrS H11 r c t n z := ⟨(si.s z (List.mem_of_getElem? hz)).ch c11⟩
   have f11 := (c9.trans c11).get f8 (by simp)
   have en : (0 : Int) + (n : Int) = (n : Int) := by omega
   walk_at "rd"
   rename_i H12 c12
   exact ⟨⟨_, rfl⟩, c11.trans c12⟩
  ·rintro σ H11 ⟨⟨u2, rfl⟩, c11⟩
   exact ⟨⟨_, _, rfl⟩, c11⟩
 ·rintro σ H10 ⟨⟨u1, u2, rfl⟩, c10⟩
  have f10 := (c9.trans c10).get f8 (by simp)
  have e10 := e8.trans (c9.trans c10).wk
  have b10 := (c9.trans c10).get b8 (by simp)
  clear bl gT
  walk_at "rd"
  rename_i H11 c11 H12 c12
  exact q _ (e10.trans (c11.trans c12).wk) ((c11.trans c12).get b10 (by simp))
theorem av41 : AF (defScope (top 41)) ["_law_script", "_law_at", "_law_k"] := ⟨by decide +kernel⟩
theorem gl41 : AG (defScope (top 41)) ["range", "len", "_law_round"] := ⟨by decide +kernel⟩
def spLaw (K : PySem.W.Frag) : Sp := fun vs H Q _ => ∃ (a : Addr) (ns : List Int), vs = [.ref a] ∧ Scr K H a ns ∧ ∀ H', Q (.bl true) H'
theorem scLaw : FnScope ["_law_script", "_law_at", "_law_k"] ["_law_script"] (defScope (top 41)) := ⟨rfl, rfl, rfl, by decide +kernel, rfl, by decide +kernel, by decide +kernel⟩
theorem zarg (F : Fun K "law" "law" (top 41) f fd) (D_law_round : DefOk P w K mg base CX0 k "_law_round" ["_law_script", "_law_at"] (spRnd K)) (z_range : mg "range" = none) (z_len : mg "len" = none) : FnOk P w K mg base CX0 (k + 1) f fd ["_law_script"] (spLaw K) := by
 have nd := scLaw.nd
 refine F.ok scLaw (fun vs H Q E h => by obtain ⟨a, ns, rfl, _⟩ := h; rfl) (fun cdv A outer s H vs Q E hr h => ?_)
 obtain ⟨a, ns, rfl, hS, q⟩ := h
 refine ⟨_, (Pr.h (zaaf (zaav (i := 1) nd rfl (av41.l 1 rfl) (zabm (zaaa zaad zaab zaae))) (zaaf (zabk PassesOwn.never rfl (zaaz (gl41.g 0 rfl) z_range (zaaa (zaaq zabw zaad (zaaq zacx (zaaj zaau (gl41.g 1 rfl) z_len PySem.boot_len (zaaa (zagr zaos (qv av41 0 rfl) zah9 (zaia zaad)) zaab zaat) zab0 zab1) zaad)) zaab zaa7)) (zaao (i := 2) nd rfl (av41.l 2 rfl)) (zaak (zaa4 (zabj (zaa3 (zaan D_law_round hr (gl41.g 2 rfl) pass0 (zaaa (qv av41 0 rfl) (zaaa (qv av41 1 rfl) zaab zaac) zaac) zagb))) (zaak (zaap zabz)) zaas))) (zaak (zaap zabz))))), ?_⟩
 (try dsimp only [cxOf])
 have l63 := hS.1
 walk_at "rd"
 rename_i b hb l hl
 have kc := zadc (ns.map V.int) none (some 60)
 rw [List.length_map] at kc
 refine ⟨by omega, ?_⟩
 have cc : Ch [] H (upd (upd H b (.lst [.int 0])) l (.lst (cutV (ns.map V.int) none (some 60)))) := (Ch.new hb _).trans (Ch.new hl _)
 refine zabf (fun i σ H' => ∃ (c : Int) (u : Option V), σ = [some (.ref a), some (.ref b), u] ∧ Scr K H' a ns ∧ H' b = some (.lst [.int c]) ∧ 0 ≤ c ∧ c ≤ i) ⟨0, _, rfl, hS.same cc, zabe hl zaal, by omega, by omega⟩ ?_ ?_
 ·rintro i σ H' hi ⟨c, u, rfl, hS', hb', c0, c1⟩
  have hi : i < 100 := by have : i < (1 + ((cutV (ns.map V.int) none (some 60)).length : Int) / 60).toNat := hi; omega
  have bs : Box (Scr K H' a ns) := ⟨hS'⟩
  clear hS'
  walk_at "rd"
  refine ⟨bs.h, hb', by omega, by omega, fun H2 d2 b2 => ?_⟩
  have hS2 := bs.h.ch hb' d2
  clear bs
  walk_at "rd"
  push_cast
  omega
 ·rintro σ H' ⟨c, u, rfl, _⟩
  walk_at "rd"
  exact q _
end
end

section
theorem zal1 {K : PySem.W.Frag} {C CF : Addr} (e : PySem.W.mroIn K C (.ref CF) = some true) : XSub K C CF := by
 obtain ⟨cd, a, b⟩ := Option.bind_eq_some_iff.mp e
 unfold PySem.W.clsIn at a
 split at a
 case h_2 => cases a
 case h_1 cl di cd' sl ho =>
  cases a
  unfold XSub
  rw [ho]
  split at b
  ·cases b
  ·exact Option.some.inj b
theorem zan3 {K : PySem.W.Frag} {C : Addr} {v : Value} (e : PySem.W.mroIn K C v = some true) : (PySem.W.clsIn K C).isSome = true := by
 obtain ⟨cd, a, b⟩ := Option.bind_eq_some_iff.mp e
 rw [a]
 rfl
theorem zarh {l : PySem.W.OpenLaw} {w : World} {K : PySem.W.Frag} {h : Heap} {mg : Str → Option Value} {fa CP : Addr} (X : K.In h) (G : h.Ns mainGlobals mg) (hfa : mg "law" = some (.ref fa))
  {f0 : Addr} {od0 an0 : Option Addr} {sl0 : Array (Option Value)} {oc0 kV0 dc0 pm0 cd0 ct0 : Value}
  {f1 : Addr} {od1 an1 : Option Addr} {sl1 : Array (Option Value)} {oc1 kV1 dc1 pm1 cd1 ct1 : Value}
  {f2 : Addr} {od2 an2 : Option Addr} {sl2 : Array (Option Value)} {oc2 kV2 dc2 pm2 cd2 ct2 : Value}
  {f3 : Addr} {od3 an3 : Option Addr} {sl3 : Array (Option Value)} {oc3 kV3 dc3 pm3 cd3 ct3 : Value}
  {f4 : Addr} {od4 an4 : Option Addr} {sl4 : Array (Option Value)} {oc4 kV4 dc4 pm4 cd4 ct4 : Value}
  {f5 : Addr} {od5 an5 : Option Addr} {sl5 : Array (Option Value)} {oc5 kV5 dc5 pm5 cd5 ct5 : Value}
  {f6 : Addr} {od6 an6 : Option Addr} {sl6 : Array (Option Value)} {oc6 kV6 dc6 pm6 cd6 ct6 : Value}
  {f7 : Addr} {od7 an7 : Option Addr} {sl7 : Array (Option Value)} {oc7 kV7 dc7 pm7 cd7 ct7 : Value}
  {f8 : Addr} {od8 an8 : Option Addr} {sl8 : Array (Option Value)} {oc8 kV8 dc8 pm8 cd8 ct8 : Value}
  {f9 : Addr} {od9 an9 : Option Addr} {sl9 : Array (Option Value)} {oc9 kV9 dc9 pm9 cd9 ct9 : Value}
  {f10 : Addr} {od10 an10 : Option Addr} {sl10 : Array (Option Value)} {oc10 kV10 dc10 pm10 cd10 ct10 : Value}
  {f11 : Addr} {od11 an11 : Option Addr} {sl11 : Array (Option Value)} {oc11 kV11 dc11 pm11 cd11 ct11 : Value}
  {f12 : Addr} {od12 an12 : Option Addr} {sl12 : Array (Option Value)} {oc12 kV12 dc12 pm12 cd12 ct12 : Value}
  {f13 : Addr} {od13 an13 : Option Addr} {sl13 : Array (Option Value)} {oc13 kV13 dc13 pm13 cd13 ct13 : Value}
  {f14 : Addr} {od14 an14 : Option Addr} {sl14 : Array (Option Value)} {oc14 kV14 dc14 pm14 cd14 ct14 : Value}
  {f15 : Addr} {od15 an15 : Option Addr} {sl15 : Array (Option Value)} {oc15 kV15 dc15 pm15 cd15 ct15 : Value}
  {f16 : Addr} {od16 an16 : Option Addr} {sl16 : Array (Option Value)} {oc16 kV16 dc16 pm16 cd16 ct16 : Value}
  {f17 : Addr} {od17 an17 : Option Addr} {sl17 : Array (Option Value)} {oc17 kV17 dc17 pm17 cd17 ct17 : Value}
  {f18 : Addr} {od18 an18 : Option Addr} {sl18 : Array (Option Value)} {oc18 kV18 dc18 pm18 cd18 ct18 : Value}
  {f19 : Addr} {od19 an19 : Option Addr} {sl19 : Array (Option Value)} {oc19 kV19 dc19 pm19 cd19 ct19 : Value}
  {f20 : Addr} {od20 an20 : Option Addr} {sl20 : Array (Option Value)} {oc20 kV20 dc20 pm20 cd20 ct20 : Value}
  {f21 : Addr} {od21 an21 : Option Addr} {sl21 : Array (Option Value)} {oc21 kV21 dc21 pm21 cd21 ct21 : Value}
  {f22 : Addr} {od22 an22 : Option Addr} {sl22 : Array (Option Value)} {oc22 kV22 dc22 pm22 cd22 ct22 : Value}
  {f23 : Addr} {od23 an23 : Option Addr} {sl23 : Array (Option Value)} {oc23 kV23 dc23 pm23 cd23 ct23 : Value}
  {f24 : Addr} {od24 an24 : Option Addr} {sl24 : Array (Option Value)} {oc24 kV24 dc24 pm24 cd24 ct24 : Value}
  {f25 : Addr} {od25 an25 : Option Addr} {sl25 : Array (Option Value)} {oc25 kV25 dc25 pm25 cd25 ct25 : Value}
  {EFloorError ENoText ENoSense ENoNet ENoRow ENoTables ENoPack ENoFloor EOutOfFloor ENoRoom ENoWays ENoBits : Addr}
  (aP : PySem.W.nsIn K mainGlobals "Floor" = some (some (.ref CP)))
  (eFloorError : PySem.W.nsIn K mainGlobals "FloorError" = some (some (.ref EFloorError)))
  (eNoText : PySem.W.nsIn K mainGlobals "NoText" = some (some (.ref ENoText)))
  (eNoSense : PySem.W.nsIn K mainGlobals "NoSense" = some (some (.ref ENoSense)))
  (eNoNet : PySem.W.nsIn K mainGlobals "NoNet" = some (some (.ref ENoNet)))
  (eNoRow : PySem.W.nsIn K mainGlobals "NoRow" = some (some (.ref ENoRow)))
  (eNoTables : PySem.W.nsIn K mainGlobals "NoTables" = some (some (.ref ENoTables)))
  (eNoPack : PySem.W.nsIn K mainGlobals "NoPack" = some (some (.ref ENoPack)))
  (eNoFloor : PySem.W.nsIn K mainGlobals "NoFloor" = some (some (.ref ENoFloor)))
  (eOutOfFloor : PySem.W.nsIn K mainGlobals "OutOfFloor" = some (some (.ref EOutOfFloor)))
  (eNoRoom : PySem.W.nsIn K mainGlobals "NoRoom" = some (some (.ref ENoRoom)))
  (eNoWays : PySem.W.nsIn K mainGlobals "NoWays" = some (some (.ref ENoWays)))
  (eNoBits : PySem.W.nsIn K mainGlobals "NoBits" = some (some (.ref ENoBits)))
  (a0 : PySem.W.nsIn K mainGlobals "is_whole" = some (some (.ref f0))) (l0 : K.lookup f0 = some ⟨oc0, od0, .func (PySem.W.fnOf "is_whole" "is_whole" (defArgs (top 14)) (defBody (top 14)) (defScope (top 14)) .none kV0 dc0 pm0 an0 cd0 ct0), sl0⟩) (c0 : PySem.W.codeIn K cd0 "is_whole" = true) (k0 : PySem.W.keepIn K (.ref f0) = true)
  (a1 : PySem.W.nsIn K mainGlobals "is_below" = some (some (.ref f1))) (l1 : K.lookup f1 = some ⟨oc1, od1, .func (PySem.W.fnOf "is_below" "is_below" (defArgs (top 15)) (defBody (top 15)) (defScope (top 15)) .none kV1 dc1 pm1 an1 cd1 ct1), sl1⟩) (c1 : PySem.W.codeIn K cd1 "is_below" = true) (k1 : PySem.W.keepIn K (.ref f1) = true)
  (a2 : PySem.W.nsIn K mainGlobals "is_listed" = some (some (.ref f2))) (l2 : K.lookup f2 = some ⟨oc2, od2, .func (PySem.W.fnOf "is_listed" "is_listed" (defArgs (top 16)) (defBody (top 16)) (defScope (top 16)) .none kV2 dc2 pm2 an2 cd2 ct2), sl2⟩) (c2 : PySem.W.codeIn K cd2 "is_listed" = true) (k2 : PySem.W.keepIn K (.ref f2) = true)
  (a3 : PySem.W.nsIn K mainGlobals "is_pair" = some (some (.ref f3))) (l3 : K.lookup f3 = some ⟨oc3, od3, .func (PySem.W.fnOf "is_pair" "is_pair" (defArgs (top 17)) (defBody (top 17)) (defScope (top 17)) .none kV3 dc3 pm3 an3 cd3 ct3), sl3⟩) (c3 : PySem.W.codeIn K cd3 "is_pair" = true) (k3 : PySem.W.keepIn K (.ref f3) = true)
  (a4 : PySem.W.nsIn K mainGlobals "is_box" = some (some (.ref f4))) (l4 : K.lookup f4 = some ⟨oc4, od4, .func (PySem.W.fnOf "is_box" "is_box" (defArgs (top 20)) (defBody (top 20)) (defScope (top 20)) .none kV4 dc4 pm4 an4 cd4 ct4), sl4⟩) (c4 : PySem.W.codeIn K cd4 "is_box" = true) (k4 : PySem.W.keepIn K (.ref f4) = true)
  (a5 : PySem.W.nsIn K mainGlobals "is_wire" = some (some (.ref f5))) (l5 : K.lookup f5 = some ⟨oc5, od5, .func (PySem.W.fnOf "is_wire" "is_wire" (defArgs (top 21)) (defBody (top 21)) (defScope (top 21)) .none kV5 dc5 pm5 an5 cd5 ct5), sl5⟩) (c5 : PySem.W.codeIn K cd5 "is_wire" = true) (k5 : PySem.W.keepIn K (.ref f5) = true)
  (a6 : PySem.W.nsIn K mainGlobals "side_wire" = some (some (.ref f6))) (l6 : K.lookup f6 = some ⟨oc6, od6, .func (PySem.W.fnOf "side_wire" "side_wire" (defArgs (top 22)) (defBody (top 22)) (defScope (top 22)) .none kV6 dc6 pm6 an6 cd6 ct6), sl6⟩) (c6 : PySem.W.codeIn K cd6 "side_wire" = true) (k6 : PySem.W.keepIn K (.ref f6) = true)
  (a7 : PySem.W.nsIn K mainGlobals "pads_of" = some (some (.ref f7))) (l7 : K.lookup f7 = some ⟨oc7, od7, .func (PySem.W.fnOf "pads_of" "pads_of" (defArgs (top 23)) (defBody (top 23)) (defScope (top 23)) .none kV7 dc7 pm7 an7 cd7 ct7), sl7⟩) (c7 : PySem.W.codeIn K cd7 "pads_of" = true) (k7 : PySem.W.keepIn K (.ref f7) = true)
  (a8 : PySem.W.nsIn K mainGlobals "pad_wires" = some (some (.ref f8))) (l8 : K.lookup f8 = some ⟨oc8, od8, .func (PySem.W.fnOf "pad_wires" "pad_wires" (defArgs (top 24)) (defBody (top 24)) (defScope (top 24)) .none kV8 dc8 pm8 an8 cd8 ct8), sl8⟩) (c8 : PySem.W.codeIn K cd8 "pad_wires" = true) (k8 : PySem.W.keepIn K (.ref f8) = true)
  (a9 : PySem.W.nsIn K mainGlobals "wires_of" = some (some (.ref f9))) (l9 : K.lookup f9 = some ⟨oc9, od9, .func (PySem.W.fnOf "wires_of" "wires_of" (defArgs (top 25)) (defBody (top 25)) (defScope (top 25)) .none kV9 dc9 pm9 an9 cd9 ct9), sl9⟩) (c9 : PySem.W.codeIn K cd9 "wires_of" = true) (k9 : PySem.W.keepIn K (.ref f9) = true)
  (a10 : PySem.W.nsIn K mainGlobals "boxes_at" = some (some (.ref f10))) (l10 : K.lookup f10 = some ⟨oc10, od10, .func (PySem.W.fnOf "boxes_at" "boxes_at" (defArgs (top 26)) (defBody (top 26)) (defScope (top 26)) .none kV10 dc10 pm10 an10 cd10 ct10), sl10⟩) (c10 : PySem.W.codeIn K cd10 "boxes_at" = true) (k10 : PySem.W.keepIn K (.ref f10) = true)
  (a11 : PySem.W.nsIn K mainGlobals "_law_next" = some (some (.ref f11))) (l11 : K.lookup f11 = some ⟨oc11, od11, .func (PySem.W.fnOf "_law_next" "_law_next" (defArgs (top 28)) (defBody (top 28)) (defScope (top 28)) .none kV11 dc11 pm11 an11 cd11 ct11), sl11⟩) (c11 : PySem.W.codeIn K cd11 "_law_next" = true) (k11 : PySem.W.keepIn K (.ref f11) = true)
  (a12 : PySem.W.nsIn K mainGlobals "_law_same" = some (some (.ref f12))) (l12 : K.lookup f12 = some ⟨oc12, od12, .func (PySem.W.fnOf "_law_same" "_law_same" (defArgs (top 29)) (defBody (top 29)) (defScope (top 29)) .none kV12 dc12 pm12 an12 cd12 ct12), sl12⟩) (c12 : PySem.W.codeIn K cd12 "_law_same" = true) (k12 : PySem.W.keepIn K (.ref f12) = true)
  (a13 : PySem.W.nsIn K mainGlobals "_law_only" = some (some (.ref f13))) (l13 : K.lookup f13 = some ⟨oc13, od13, .func (PySem.W.fnOf "_law_only" "_law_only" (defArgs (top 30)) (defBody (top 30)) (defScope (top 30)) .none kV13 dc13 pm13 an13 cd13 ct13), sl13⟩) (c13 : PySem.W.codeIn K cd13 "_law_only" = true) (k13 : PySem.W.keepIn K (.ref f13) = true)
  (a14 : PySem.W.nsIn K mainGlobals "_law_caught" = some (some (.ref f14))) (l14 : K.lookup f14 = some ⟨oc14, od14, .func (PySem.W.fnOf "_law_caught" "_law_caught" (defArgs (top 31)) (defBody (top 31)) (defScope (top 31)) .none kV14 dc14 pm14 an14 cd14 ct14), sl14⟩) (c14 : PySem.W.codeIn K cd14 "_law_caught" = true) (k14 : PySem.W.keepIn K (.ref f14) = true)
  (a15 : PySem.W.nsIn K mainGlobals "_law_due_wires" = some (some (.ref f15))) (l15 : K.lookup f15 = some ⟨oc15, od15, .func (PySem.W.fnOf "_law_due_wires" "_law_due_wires" (defArgs (top 32)) (defBody (top 32)) (defScope (top 32)) .none kV15 dc15 pm15 an15 cd15 ct15), sl15⟩) (c15 : PySem.W.codeIn K cd15 "_law_due_wires" = true) (k15 : PySem.W.keepIn K (.ref f15) = true)
  (a16 : PySem.W.nsIn K mainGlobals "_law_due_boxes" = some (some (.ref f16))) (l16 : K.lookup f16 = some ⟨oc16, od16, .func (PySem.W.fnOf "_law_due_boxes" "_law_due_boxes" (defArgs (top 33)) (defBody (top 33)) (defScope (top 33)) .none kV16 dc16 pm16 an16 cd16 ct16), sl16⟩) (c16 : PySem.W.codeIn K cd16 "_law_due_boxes" = true) (k16 : PySem.W.keepIn K (.ref f16) = true)
  (a17 : PySem.W.nsIn K mainGlobals "_law_due_side" = some (some (.ref f17))) (l17 : K.lookup f17 = some ⟨oc17, od17, .func (PySem.W.fnOf "_law_due_side" "_law_due_side" (defArgs (top 34)) (defBody (top 34)) (defScope (top 34)) .none kV17 dc17 pm17 an17 cd17 ct17), sl17⟩) (c17 : PySem.W.codeIn K cd17 "_law_due_side" = true) (k17 : PySem.W.keepIn K (.ref f17) = true)
  (a18 : PySem.W.nsIn K mainGlobals "_law_due_pads" = some (some (.ref f18))) (l18 : K.lookup f18 = some ⟨oc18, od18, .func (PySem.W.fnOf "_law_due_pads" "_law_due_pads" (defArgs (top 35)) (defBody (top 35)) (defScope (top 35)) .none kV18 dc18 pm18 an18 cd18 ct18), sl18⟩) (c18 : PySem.W.codeIn K cd18 "_law_due_pads" = true) (k18 : PySem.W.keepIn K (.ref f18) = true)
  (a19 : PySem.W.nsIn K mainGlobals "_law_due_pad" = some (some (.ref f19))) (l19 : K.lookup f19 = some ⟨oc19, od19, .func (PySem.W.fnOf "_law_due_pad" "_law_due_pad" (defArgs (top 36)) (defBody (top 36)) (defScope (top 36)) .none kV19 dc19 pm19 an19 cd19 ct19), sl19⟩) (c19 : PySem.W.codeIn K cd19 "_law_due_pad" = true) (k19 : PySem.W.keepIn K (.ref f19) = true)
  (a20 : PySem.W.nsIn K mainGlobals "_law_walked" = some (some (.ref f20))) (l20 : K.lookup f20 = some ⟨oc20, od20, .func (PySem.W.fnOf "_law_walked" "_law_walked" (defArgs (top 37)) (defBody (top 37)) (defScope (top 37)) .none kV20 dc20 pm20 an20 cd20 ct20), sl20⟩) (c20 : PySem.W.codeIn K cd20 "_law_walked" = true) (k20 : PySem.W.keepIn K (.ref f20) = true)
  (a21 : PySem.W.nsIn K mainGlobals "_law_pads" = some (some (.ref f21))) (l21 : K.lookup f21 = some ⟨oc21, od21, .func (PySem.W.fnOf "_law_pads" "_law_pads" (defArgs (top 38)) (defBody (top 38)) (defScope (top 38)) .none kV21 dc21 pm21 an21 cd21 ct21), sl21⟩) (c21 : PySem.W.codeIn K cd21 "_law_pads" = true) (k21 : PySem.W.keepIn K (.ref f21) = true)
  (a22 : PySem.W.nsIn K mainGlobals "_law_strange" = some (some (.ref f22))) (l22 : K.lookup f22 = some ⟨oc22, od22, .func (PySem.W.fnOf "_law_strange" "_law_strange" (defArgs (top 39)) (defBody (top 39)) (defScope (top 39)) .none kV22 dc22 pm22 an22 cd22 ct22), sl22⟩) (c22 : PySem.W.codeIn K cd22 "_law_strange" = true) (k22 : PySem.W.keepIn K (.ref f22) = true)
  (a23 : PySem.W.nsIn K mainGlobals "_law_round" = some (some (.ref f23))) (l23 : K.lookup f23 = some ⟨oc23, od23, .func (PySem.W.fnOf "_law_round" "_law_round" (defArgs (top 40)) (defBody (top 40)) (defScope (top 40)) .none kV23 dc23 pm23 an23 cd23 ct23), sl23⟩) (c23 : PySem.W.codeIn K cd23 "_law_round" = true) (k23 : PySem.W.keepIn K (.ref f23) = true)
  (a24 : PySem.W.nsIn K mainGlobals "law" = some (some (.ref f24))) (l24 : K.lookup f24 = some ⟨oc24, od24, .func (PySem.W.fnOf "law" "law" (defArgs (top 41)) (defBody (top 41)) (defScope (top 41)) .none kV24 dc24 pm24 an24 cd24 ct24), sl24⟩) (c24 : PySem.W.codeIn K cd24 "law" = true) (k24 : PySem.W.keepIn K (.ref f24) = true)
  (a25 : PySem.W.findIn K (.ref CP) "__init__" = some (some (.ref f25))) (l25 : K.lookup f25 = some ⟨oc25, od25, .func (PySem.W.fnOf "__init__" "Floor.__init__" (defArgs (inClass (top 19) 0)) (defBody (inClass (top 19) 0)) (defScope (inClass (top 19) 0)) .none kV25 dc25 pm25 an25 cd25 ct25), sl25⟩) (c25 : PySem.W.codeIn K cd25 "Floor.__init__" = true) (k25 : PySem.W.keepIn K (.ref f25) = true) (i25 : PySem.W.isFn K (.ref f25) = true)
  (pgP : PySem.W.plainGet K CP Str.empty = true) (hdP : PySem.W.hasDictIn K CP = true) (poP : PySem.W.plainOver K CP = true) (saP : PySem.W.findIn K (.ref CP) "__setattr__" = some (some (.builtin "object.__setattr__"))) (mkP : PySem.W.makesIn K CP = true) (kcP : PySem.W.keepIn K (.ref CP) = true)
  (nP_rows : PySem.W.findIn K (.ref CP) "rows" = some none)
  (nP_columns : PySem.W.findIn K (.ref CP) "columns" = some none)
  (nP_tracks : PySem.W.findIn K (.ref CP) "tracks" = some none)
  (z_len : PySem.W.nsIn K mainGlobals "len" = some none)
  (z_range : PySem.W.nsIn K mainGlobals "range" = some none)
  (z_int : PySem.W.nsIn K mainGlobals "int" = some none)
  (z_str : PySem.W.nsIn K mainGlobals "str" = some none)
  (z_isinstance : PySem.W.nsIn K mainGlobals "isinstance" = some none)
  (z_zip : PySem.W.nsIn K mainGlobals "zip" = some none)
  (z_list : PySem.W.nsIn K mainGlobals "list" = some none)
  (z_tuple : PySem.W.nsIn K mainGlobals "tuple" = some none)
  (z_dict : PySem.W.nsIn K mainGlobals "dict" = some none)
  (z_bool : PySem.W.nsIn K mainGlobals "bool" = some none)
  (z_all : PySem.W.nsIn K mainGlobals "all" = some none)
  (z_min : PySem.W.nsIn K mainGlobals "min" = some none)
  (z_sorted : PySem.W.nsIn K mainGlobals "sorted" = some none)
  (z_ValueError : PySem.W.nsIn K mainGlobals "ValueError" = some none)
  (xcR : PySem.W.excIn K ENoFloor bmV "ValueError.__new__" = true) (xcF : PySem.W.excIn K EFloorError bmV "ValueError.__new__" = true) (xsb : PySem.W.mroIn K ENoFloor (.ref EFloorError) = some true)
  (xga : PySem.W.findIn K (.ref ENoFloor) "__getattribute__" = some (some (.builtin "BaseException.__getattribute__"))) (xgt : PySem.W.findIn K (.ref ENoFloor) "__getattr__" = some none) (xcl : PySem.W.findIn K (.ref ENoFloor) "__class__" = some (some (.builtin "object.__class__")))
  (xsg : PySem.W.specialIn K (.builtin "object.__class__") "__get__" = some (some (.builtin "getset_descriptor.__get__"))) (xtk : PySem.W.takesIn K (.builtin "object.__class__") = some true) (xmo : PySem.W.mroIn K ENoFloor (.type "object") = some true)
  (w_NoText : PySem.W.kitOne K (.ref ENoFloor) (.ref ENoText) = some false)
  (w_NoSense : PySem.W.kitOne K (.ref ENoFloor) (.ref ENoSense) = some false)
  (w_NoNet : PySem.W.kitOne K (.ref ENoFloor) (.ref ENoNet) = some false)
  (w_NoRow : PySem.W.kitOne K (.ref ENoFloor) (.ref ENoRow) = some false)
  (w_NoTables : PySem.W.kitOne K (.ref ENoFloor) (.ref ENoTables) = some false)
  (w_NoPack : PySem.W.kitOne K (.ref ENoFloor) (.ref ENoPack) = some false)
  (w_NoFloor : PySem.W.kitOne K (.ref ENoFloor) (.ref ENoFloor) = some true)
  (w_OutOfFloor : PySem.W.kitOne K (.ref ENoFloor) (.ref EOutOfFloor) = some false)
  (w_NoRoom : PySem.W.kitOne K (.ref ENoFloor) (.ref ENoRoom) = some false)
  (w_NoWays : PySem.W.kitOne K (.ref ENoFloor) (.ref ENoWays) = some false)
  (w_NoBits : PySem.W.kitOne K (.ref ENoFloor) (.ref ENoBits) = some false)
  (w_V : PySem.W.kitOne K (.ref ENoFloor) (.type "ValueError") = some true)
  (ycR : PySem.W.excIn K EOutOfFloor bmV "ValueError.__new__" = true) (ysb : PySem.W.mroIn K EOutOfFloor (.ref EFloorError) = some true)
  (yga : PySem.W.findIn K (.ref EOutOfFloor) "__getattribute__" = some (some (.builtin "BaseException.__getattribute__"))) (ygt : PySem.W.findIn K (.ref EOutOfFloor) "__getattr__" = some none) (ycl : PySem.W.findIn K (.ref EOutOfFloor) "__class__" = some (some (.builtin "object.__class__"))) (ymo : PySem.W.mroIn K EOutOfFloor (.type "object") = some true)
  (v_NoText : PySem.W.kitOne K (.ref EOutOfFloor) (.ref ENoText) = some false)
  (v_NoSense : PySem.W.kitOne K (.ref EOutOfFloor) (.ref ENoSense) = some false)
  (v_NoNet : PySem.W.kitOne K (.ref EOutOfFloor) (.ref ENoNet) = some false)
  (v_NoRow : PySem.W.kitOne K (.ref EOutOfFloor) (.ref ENoRow) = some false)
  (v_NoTables : PySem.W.kitOne K (.ref EOutOfFloor) (.ref ENoTables) = some false)
  (v_NoPack : PySem.W.kitOne K (.ref EOutOfFloor) (.ref ENoPack) = some false)
  (v_NoFloor : PySem.W.kitOne K (.ref EOutOfFloor) (.ref ENoFloor) = some false)
  (v_OutOfFloor : PySem.W.kitOne K (.ref EOutOfFloor) (.ref EOutOfFloor) = some true)
  (v_NoRoom : PySem.W.kitOne K (.ref EOutOfFloor) (.ref ENoRoom) = some false)
  (v_NoWays : PySem.W.kitOne K (.ref EOutOfFloor) (.ref ENoWays) = some false)
  (v_NoBits : PySem.W.kitOne K (.ref EOutOfFloor) (.ref ENoBits) = some false)
  (v_V : PySem.W.kitOne K (.ref EOutOfFloor) (.type "ValueError") = some true) :
  ∃ fd : FuncData, (∀ (s : Shared) (v : Value), BindsTo s fd ⟨[v], []⟩ [("_law_script", v)]) ∧ ∀ base : Heap, K.In base → base.Ns mainGlobals mg → FnOk l.prog w K mg base CX0 14 fa fd ["_law_script"] (spLaw K) := by
 have e := hfa.symm.trans (PySem.W.mg_of X G a24)
 cases e
 have F0 := zabr (st := top 14) l0 c0 k0
 have b0 := F0.binds (ps := ["thing"]) fun _ _ _ _ _ _ us hl => match us, hl with | [_], _ => rfl
 have m0 := PySem.W.mg_of X G a0
 have F1 := zabr (st := top 15) l1 c1 k1
 have b1 := F1.binds (ps := ["thing", "bound"]) fun _ _ _ _ _ _ us hl => match us, hl with | [_, _], _ => rfl
 have m1 := PySem.W.mg_of X G a1
 have F2 := zabr (st := top 16) l2 c2 k2
 have b2 := F2.binds (ps := ["thing"]) fun _ _ _ _ _ _ us hl => match us, hl with | [_], _ => rfl
 have m2 := PySem.W.mg_of X G a2
 have F3 := zabr (st := top 17) l3 c3 k3
 have b3 := F3.binds (ps := ["thing"]) fun _ _ _ _ _ _ us hl => match us, hl with | [_], _ => rfl
 have m3 := PySem.W.mg_of X G a3
 have F4 := zabr (st := top 20) l4 c4 k4
 have b4 := F4.binds (ps := ["floor", "thing"]) fun _ _ _ _ _ _ us hl => match us, hl with | [_, _], _ => rfl
 have m4 := PySem.W.mg_of X G a4
 have F5 := zabr (st := top 21) l5 c5 k5
 have b5 := F5.binds (ps := ["floor", "thing"]) fun _ _ _ _ _ _ us hl => match us, hl with | [_, _], _ => rfl
 have m5 := PySem.W.mg_of X G a5
 have F6 := zabr (st := top 22) l6 c6 k6
 have b6 := F6.binds (ps := ["floor", "box", "side", "track"]) fun _ _ _ _ _ _ us hl => match us, hl with | [_, _, _, _], _ => rfl
 have m6 := PySem.W.mg_of X G a6
 have F7 := zabr (st := top 23) l7 c7 k7
 have b7 := F7.binds (ps := ["floor"]) fun _ _ _ _ _ _ us hl => match us, hl with | [_], _ => rfl
 have m7 := PySem.W.mg_of X G a7
 have F8 := zabr (st := top 24) l8 c8 k8
 have b8 := F8.binds (ps := ["floor", "pad"]) fun _ _ _ _ _ _ us hl => match us, hl with | [_, _], _ => rfl
 have m8 := PySem.W.mg_of X G a8
 have F9 := zabr (st := top 25) l9 c9 k9
 have b9 := F9.binds (ps := ["floor"]) fun _ _ _ _ _ _ us hl => match us, hl with | [_], _ => rfl
 have m9 := PySem.W.mg_of X G a9
 have F10 := zabr (st := top 26) l10 c10 k10
 have b10 := F10.binds (ps := ["floor", "wire"]) fun _ _ _ _ _ _ us hl => match us, hl with | [_, _], _ => rfl
 have m10 := PySem.W.mg_of X G a10
 have F11 := zabr (st := top 28) l11 c11 k11
 have b11 := F11.binds (ps := ["_law_script", "_law_at"]) fun _ _ _ _ _ _ us hl => match us, hl with | [_, _], _ => rfl
 have m11 := PySem.W.mg_of X G a11
 have F12 := zabr (st := top 29) l12 c12 k12
 have b12 := F12.binds (ps := ["_law_found", "_law_due"]) fun _ _ _ _ _ _ us hl => match us, hl with | [_, _], _ => rfl
 have m12 := PySem.W.mg_of X G a12
 have F13 := zabr (st := top 30) l13 c13 k13
 have b13 := F13.binds (ps := ["_law_caught_here", "_law_kind"]) fun _ _ _ _ _ _ us hl => match us, hl with | [_, _], _ => rfl
 have m13 := PySem.W.mg_of X G a13
 have F14 := zabr (st := top 31) l14 c14 k14
 have b14 := F14.binds (ps := ["_law_floor", "_law_which", "_law_thing"]) fun _ _ _ _ _ _ us hl => match us, hl with | [_, _, _], _ => rfl
 have m14 := PySem.W.mg_of X G a14
 have F15 := zabr (st := top 32) l15 c15 k15
 have b15 := F15.binds (ps := ["_law_rows", "_law_columns", "_law_tracks"]) fun _ _ _ _ _ _ us hl => match us, hl with | [_, _, _], _ => rfl
 have m15 := PySem.W.mg_of X G a15
 have F16 := zabr (st := top 33) l16 c16 k16
 have b16 := F16.binds (ps := ["_law_rows", "_law_columns", "_law_wire"]) fun _ _ _ _ _ _ us hl => match us, hl with | [_, _, _], _ => rfl
 have m16 := PySem.W.mg_of X G a16
 have F17 := zabr (st := top 34) l17 c17 k17
 have b17 := F17.binds (ps := ["_law_box", "_law_side", "_law_track"]) fun _ _ _ _ _ _ us hl => match us, hl with | [_, _, _], _ => rfl
 have m17 := PySem.W.mg_of X G a17
 have F18 := zabr (st := top 35) l18 c18 k18
 have b18 := F18.binds (ps := ["_law_rows", "_law_columns"]) fun _ _ _ _ _ _ us hl => match us, hl with | [_, _], _ => rfl
 have m18 := PySem.W.mg_of X G a18
 have F19 := zabr (st := top 36) l19 c19 k19
 have b19 := F19.binds (ps := ["_law_rows", "_law_columns", "_law_spot", "_law_tracks"]) fun _ _ _ _ _ _ us hl => match us, hl with | [_, _, _, _], _ => rfl
 have m19 := PySem.W.mg_of X G a19
 have F20 := zabr (st := top 37) l20 c20 k20
 have b20 := F20.binds (ps := ["_law_floor", "_law_rows", "_law_columns", "_law_tracks"]) fun _ _ _ _ _ _ us hl => match us, hl with | [_, _, _, _], _ => rfl
 have m20 := PySem.W.mg_of X G a20
 have F21 := zabr (st := top 38) l21 c21 k21
 have b21 := F21.binds (ps := ["_law_floor", "_law_rows", "_law_columns", "_law_tracks"]) fun _ _ _ _ _ _ us hl => match us, hl with | [_, _, _, _], _ => rfl
 have m21 := PySem.W.mg_of X G a21
 have F22 := zabr (st := top 39) l22 c22 k22
 have b22 := F22.binds (ps := ["_law_m", "_law_rows", "_law_columns", "_law_tracks"]) fun _ _ _ _ _ _ us hl => match us, hl with | [_, _, _, _], _ => rfl
 have m22 := PySem.W.mg_of X G a22
 have F23 := zabr (st := top 40) l23 c23 k23
 have b23 := F23.binds (ps := ["_law_script", "_law_at"]) fun _ _ _ _ _ _ us hl => match us, hl with | [_, _], _ => rfl
 have m23 := PySem.W.mg_of X G a23
 have F24 := zabr (st := top 41) l24 c24 k24
 have F25 := zabr (st := inClass (top 19) 0) l25 c25 k25
 have b25 := F25.binds (ps := ["self", "rows", "columns", "tracks"]) fun _ _ _ _ _ _ us hl => match us, hl with | [_, _, _, _], _ => rfl
 have z_len := PySem.W.mg_none_of X G z_len
 have z_range := PySem.W.mg_none_of X G z_range
 have z_int := PySem.W.mg_none_of X G z_int
 have z_str := PySem.W.mg_none_of X G z_str
 have z_isinstance := PySem.W.mg_none_of X G z_isinstance
 have z_zip := PySem.W.mg_none_of X G z_zip
 have z_list := PySem.W.mg_none_of X G z_list
 have z_tuple := PySem.W.mg_none_of X G z_tuple
 have z_dict := PySem.W.mg_none_of X G z_dict
 have z_bool := PySem.W.mg_none_of X G z_bool
 have z_all := PySem.W.mg_none_of X G z_all
 have z_min := PySem.W.mg_none_of X G z_min
 have z_sorted := PySem.W.mg_none_of X G z_sorted
 have z_ValueError := PySem.W.mg_none_of X G z_ValueError
 have m_FloorError := PySem.W.mg_of X G eFloorError
 have m_NoText := PySem.W.mg_of X G eNoText
 have m_NoSense := PySem.W.mg_of X G eNoSense
 have m_NoNet := PySem.W.mg_of X G eNoNet
 have m_NoRow := PySem.W.mg_of X G eNoRow
 have m_NoTables := PySem.W.mg_of X G eNoTables
 have m_NoPack := PySem.W.mg_of X G eNoPack
 have m_NoFloor := PySem.W.mg_of X G eNoFloor
 have m_OutOfFloor := PySem.W.mg_of X G eOutOfFloor
 have m_NoRoom := PySem.W.mg_of X G eNoRoom
 have m_NoWays := PySem.W.mg_of X G eNoWays
 have m_NoBits := PySem.W.mg_of X G eNoBits
 have mP := PySem.W.mg_of X G aP
 have clP : Cls K CP := ⟨pgP, hdP, poP, saP⟩
 have XR : XC K ENoFloor := xcR
 have XF : XC K EFloorError := xcF
 have xa : XA K ENoFloor := ⟨XR.b, xga, xgt, xcl, xsg, xtk, xmo, zan3 xmo⟩
 have sub : XSub K ENoFloor EFloorError := zal1 xsb
 have YR : XC K EOutOfFloor := ycR
 have ya : XA K EOutOfFloor := ⟨YR.b, yga, ygt, ycl, xsg, xtk, ymo, zan3 ymo⟩
 have sub2 : XSub K EOutOfFloor EFloorError := zal1 ysb
 refine ⟨PySem.W.fnOf "law" "law" (defArgs (top 41)) (defBody (top 41)) (defScope (top 41)) .none kV24 dc24 pm24 an24 cd24 ct24, fun s v => .of_eq rfl, fun base _ _ => ?_⟩
 have wp : ∀ x, WP K (cond x ENoFloor EOutOfFloor) x ENoText ENoSense ENoNet ENoRow ENoTables ENoPack ENoFloor EOutOfFloor ENoRoom ENoWays ENoBits := fun x => by
  cases x with
  | true => exact ⟨xa, w_NoText, w_NoSense, w_NoNet, w_NoRow, w_NoTables, w_NoPack, w_NoFloor, w_OutOfFloor, w_NoRoom, w_NoWays, w_NoBits, w_V⟩
  | false => exact ⟨ya, v_NoText, v_NoSense, v_NoNet, v_NoRow, v_NoTables, v_NoPack, v_NoFloor, v_OutOfFloor, v_NoRoom, v_NoWays, v_NoBits, v_V⟩
 have D_is_whole_1 : DefOk l.prog w K mg base CX0 1 "is_whole" ["thing"] spWhole := ⟨f0, _, zam1 (k := 0) F0 z_isinstance z_int z_bool, b0, k0, m0⟩
 have D_is_below_2 : DefOk l.prog w K mg base CX0 2 "is_below" ["thing", "bound"] spBelow := ⟨f1, _, zam2 (k := 1) F1 D_is_whole_1, b1, k1, m1⟩
 have D_is_listed_1 : DefOk l.prog w K mg base CX0 1 "is_listed" ["thing"] spListed := ⟨f2, _, zakc (k := 0) F2 z_isinstance z_list z_tuple, b2, k2, m2⟩
 have D_is_pair_2 : DefOk l.prog w K mg base CX0 2 "is_pair" ["thing"] spPair := ⟨f3, _, zapd (k := 1) F3 D_is_listed_1 z_len, b3, k3, m3⟩
 have D_is_box_3 : DefOk l.prog w K mg base CX0 3 "is_box" ["floor", "thing"] (spBox CP) := ⟨f4, _, zarb (k := 2) F4 clP nP_rows nP_columns D_is_pair_2 D_is_below_2, b4, k4, m4⟩
 have TS := zam3 (k := 3) F6 clP nP_tracks D_is_box_3 (D_is_below_2.mono (by omega)) m_OutOfFloor YR
 have DX_side_wire_4 : DefOk l.prog w K mg base (CXE l.prog w) 4 "side_wire" ["floor", "box", "side", "track"] (spSideX CP EOutOfFloor) := ⟨f6, _, TS, b6, k6, m6⟩
 have D_side_wire_4 : DefOk l.prog w K mg base CX0 4 "side_wire" ["floor", "box", "side", "track"] (spSide CP) := ⟨f6, _, TS.calm zalq, b6, k6, m6⟩
 have TF := zakd (k := 1) F25 clP nP_rows nP_columns nP_tracks D_is_whole_1 m_NoFloor XR
 have MkX : MakeOk l.prog w K mg base (CXE l.prog w) 2 CP "Floor" ["self", "rows", "columns", "tracks"] (spFloorX CP ENoFloor) := ⟨⟨f25, _, TF, b25, ⟨mkP, a25, i25, kcP⟩, mP⟩⟩
 have MkF : MakeOk l.prog w K mg base CX0 2 CP "Floor" ["self", "rows", "columns", "tracks"] (spFloor CP) := ⟨⟨f25, _, TF.calm zai4, b25, ⟨mkP, a25, i25, kcP⟩, mP⟩⟩
 have D_is_wire_3 : DefOk l.prog w K mg base CX0 3 "is_wire" ["floor", "thing"] (spWire CP) := ⟨f5, _, zapg (k := 2) F5 clP nP_rows nP_columns nP_tracks (D_is_whole_1.mono (by omega)) (D_is_listed_1.mono (by omega)) D_is_below_2 z_len z_all, b5, k5, m5⟩
 have TB := zaki (k := 3) F10 clP D_is_wire_3 D_is_box_3 m_OutOfFloor YR
 have DX_boxes_at_4 : DefOk l.prog w K mg base (CXE l.prog w) 4 "boxes_at" ["floor", "wire"] (spBoxesX CP EOutOfFloor) := ⟨f10, _, TB, b10, k10, m10⟩
 have D_boxes_at_4 : DefOk l.prog w K mg base CX0 4 "boxes_at" ["floor", "wire"] (spBoxes CP) := ⟨f10, _, TB.calm zai3, b10, k10, m10⟩
 have D_pads_of_1 : DefOk l.prog w K mg base CX0 1 "pads_of" ["floor"] (spPads CP) := ⟨f7, _, zapj (k := 0) F7 clP nP_rows nP_columns z_range, b7, k7, m7⟩
 have TP := zam5 (k := 2) F8 clP nP_rows nP_columns nP_tracks (D_pads_of_1.mono (by omega)) D_is_below_2 z_len z_range m_OutOfFloor YR
 have DX_pad_wires_3 : DefOk l.prog w K mg base (CXE l.prog w) 3 "pad_wires" ["floor", "pad"] (spPadWX CP EOutOfFloor) := ⟨f8, _, TP, b8, k8, m8⟩
 have D_pad_wires_3 : DefOk l.prog w K mg base CX0 3 "pad_wires" ["floor", "pad"] (spPadW CP) := ⟨f8, _, TP.calm zalt, b8, k8, m8⟩
 have D_wires_of_1 : DefOk l.prog w K mg base CX0 1 "wires_of" ["floor"] (spWires CP) := ⟨f9, _, zam6 (k := 0) F9 clP nP_rows nP_columns nP_tracks z_range, b9, k9, m9⟩
 have D__law_next_1 : DefOk l.prog w K mg base CX0 1 "_law_next" ["_law_script", "_law_at"] (spNext K) := ⟨f11, _, zapk (k := 0) F11 z_len z_range, b11, k11, m11⟩
 have D__law_same_1 : DefOk l.prog w K mg base CX0 1 "_law_same" ["_law_found", "_law_due"] (spSame 0) := ⟨f12, _, zam7 (k := 0) F12, b12, k12, m12⟩
 have D__law_same_2 : DefOk l.prog w K mg base CX0 2 "_law_same" ["_law_found", "_law_due"] (spSame 1) := ⟨f12, _, zahn 0 (k := 1) F12 D__law_same_1 z_isinstance z_dict z_list z_tuple z_str z_int z_bool z_len z_all z_zip, b12, k12, m12⟩
 have D__law_same_3 : DefOk l.prog w K mg base CX0 3 "_law_same" ["_law_found", "_law_due"] (spSame 2) := ⟨f12, _, zahn 1 (k := 2) F12 D__law_same_2 z_isinstance z_dict z_list z_tuple z_str z_int z_bool z_len z_all z_zip, b12, k12, m12⟩
 have D__law_same_4 : DefOk l.prog w K mg base CX0 4 "_law_same" ["_law_found", "_law_due"] (spSame 3) := ⟨f12, _, zahn 2 (k := 3) F12 D__law_same_3 z_isinstance z_dict z_list z_tuple z_str z_int z_bool z_len z_all z_zip, b12, k12, m12⟩
 have D__law_only_1 : DefOk l.prog w K mg base CX0 1 "_law_only" ["_law_caught_here", "_law_kind"] (spOnly ENoFloor EOutOfFloor) := ⟨f13, _, zapm (k := 0) F13 wp m_NoText m_NoSense m_NoNet m_NoRow m_NoTables m_NoPack m_NoFloor m_OutOfFloor m_NoRoom m_NoWays m_NoBits z_isinstance z_ValueError z_len, b13, k13, m13⟩
 have D__law_caught_6 : DefOk l.prog w K mg base CX0 6 "_law_caught" ["_law_floor", "_law_which", "_law_thing"] (spCaught CP) := ⟨f14, _, zak5 (k := 4) F14 (MkX.mono (by omega)) (DX_side_wire_4.mono (by omega)) (DX_pad_wires_3.mono (by omega)) (DX_boxes_at_4.mono (by omega)) (D__law_only_1.mono (by omega)) m_FloorError XF.b XR.b YR.b sub sub2, b14, k14, m14⟩
 have D__law_due_wires_1 : DefOk l.prog w K mg base CX0 1 "_law_due_wires" ["_law_rows", "_law_columns", "_law_tracks"] spDueW := ⟨f15, _, zapn (k := 0) F15 z_range, b15, k15, m15⟩
 have D__law_due_side_1 : DefOk l.prog w K mg base CX0 1 "_law_due_side" ["_law_box", "_law_side", "_law_track"] spDueS := ⟨f17, _, zapo (k := 0) F17, b17, k17, m17⟩
 have D__law_due_boxes_1 : DefOk l.prog w K mg base CX0 1 "_law_due_boxes" ["_law_rows", "_law_columns", "_law_wire"] spDueB := ⟨f16, _, zapp (k := 0) F16 z_int, b16, k16, m16⟩
 have D__law_due_pads_1 : DefOk l.prog w K mg base CX0 1 "_law_due_pads" ["_law_rows", "_law_columns"] spDueP := ⟨f18, _, zaps (k := 0) F18 z_range, b18, k18, m18⟩
 have D__law_due_pad_1 : DefOk l.prog w K mg base CX0 1 "_law_due_pad" ["_law_rows", "_law_columns", "_law_spot", "_law_tracks"] spDueQ := ⟨f19, _, zapv (k := 0) F19 z_range z_min, b19, k19, m19⟩
 have D__law_strange_1 : DefOk l.prog w K mg base CX0 1 "_law_strange" ["_law_m", "_law_rows", "_law_columns", "_law_tracks"] spStr := ⟨f22, _, zarc (k := 0) F22, b22, k22, m22⟩
 have D__law_walked_5 : DefOk l.prog w K mg base CX0 5 "_law_walked" ["_law_floor", "_law_rows", "_law_columns", "_law_tracks"] (spWalked CP) := ⟨f20, _, zals (k := 4) F20 D_side_wire_4 D_boxes_at_4 D__law_same_4 (D__law_due_side_1.mono (by omega)) (D__law_due_wires_1.mono (by omega)) (D__law_due_boxes_1.mono (by omega)) z_range z_len, b20, k20, m20⟩
 have D__law_pads_5 : DefOk l.prog w K mg base CX0 5 "_law_pads" ["_law_floor", "_law_rows", "_law_columns", "_law_tracks"] (spLPads CP) := ⟨f21, _, zanh (k := 4) F21 (D_pads_of_1.mono (by omega)) (D_pad_wires_3.mono (by omega)) D__law_same_4 (D__law_due_pads_1.mono (by omega)) (D__law_due_pad_1.mono (by omega)) z_range z_len, b21, k21, m21⟩
 have D__law_round_8 : DefOk l.prog w K mg base CX0 8 "_law_round" ["_law_script", "_law_at"] (spRnd K) := ⟨f23, _, zarf (k := 6) F23 clP nP_rows nP_columns nP_tracks (D__law_next_1.mono (by omega)) (MkF.mono (by omega)) (D__law_same_4.mono (by omega)) (D_wires_of_1.mono (by omega)) (D__law_due_wires_1.mono (by omega)) (D__law_strange_1.mono (by omega)) (D__law_caught_6.mono (by omega)) (D__law_walked_5.mono (by omega)) (D__law_pads_5.mono (by omega)) z_range z_sorted, b23, k23, m23⟩
 exact zarg (k := 13) F24 (D__law_round_8.mono (by omega)) z_range z_len
end

end B17
open PySem PySem.W PyProof.Rows
theorem PySem.W.Fast.tw12228156157799203993 : True := trivial
theorem PySem.W.Fast.tw5356488988770110981 : True := trivial
theorem PySem.W.Fast.tw14712183434835784952 : True := trivial
theorem PySem.W.Fast.tw10607814757354148310 : True := trivial
theorem PySem.W.Fast.tw10973803023729135488 : True := trivial
theorem PySem.W.Fast.tw15510543595244852159 : True := trivial
theorem PySem.W.Fast.tw12754868072556883135 : True := trivial
theorem PySem.W.Fast.tw12006971169062878221 : True := trivial
theorem PySem.W.Fast.tw3245838474083416734 : True := trivial
theorem PySem.W.Fast.tw1280635028680021450 : True := trivial
theorem PySem.W.Fast.tw11514576376723611511 : True := trivial
theorem PySem.W.Fast.tw15715859413882843609 : True := trivial
theorem PySem.W.Fast.tw12715631426302335330 : True := trivial
theorem PySem.W.Fast.tw15768243699094316619 : True := trivial
theorem PySem.W.Fast.tw3563551013909499508 : True := trivial
theorem PySem.W.Fast.tw4723748894951048227 : True := trivial
theorem PySem.W.Fast.tw9944875581777872880 : True := trivial
theorem PySem.W.Fast.tw14514368563933394899 : True := trivial
theorem PySem.W.Fast.tw8568297046951454320 : True := trivial
theorem PySem.W.Fast.tw7400125791012433353 : True := trivial
theorem PySem.W.Fast.tw7698282303587748119 : True := trivial
theorem PySem.W.Fast.tw10188488620143735415 : True := trivial
theorem PySem.W.Fast.tw11661821370170618115 : True := trivial
theorem PySem.W.Fast.tw5788480353843850208 : True := trivial
theorem PySem.W.Fast.tw15171722473952021905 : True := trivial
theorem PySem.W.Fast.tw12665929083826616827 : True := trivial
theorem PySem.W.Fast.tw3254959536129984386 : True := trivial
theorem PySem.W.Fast.tw15461719660191881617 : True := trivial
theorem PySem.W.Fast.tw1099865416032101424 : True := trivial
theorem PySem.W.Fast.tw12266414059639636006 : True := trivial
theorem PySem.W.Fast.tw18135891015736088262 : True := trivial
theorem PySem.W.Fast.tw17636980215939786355 : True := trivial
theorem PySem.W.Fast.tw4877668419855854445 : True := trivial
theorem PySem.W.Fast.tw13024953168529722385 : True := trivial
theorem PySem.W.Fast.tw14903409226729012445 : True := trivial
theorem PySem.W.Fast.tw11805378398002309285 : True := trivial
theorem PySem.W.Fast.tw13080103146543840425 : True := trivial
theorem PySem.W.Fast.tw2114290493400280626 : True := trivial
theorem PySem.W.Fast.tw1023142683416152691 : True := trivial
theorem PySem.W.Fast.tw7409550922514001950 : True := trivial
theorem PySem.W.Fast.tw273377500426744905 : True := trivial
theorem PySem.W.Fast.tw15325207197633247588 : True := trivial
theorem PySem.W.Fast.tw7189877429390809085 : True := trivial
theorem PySem.W.Fast.tw13540534658604343730 : True := trivial
theorem PySem.W.Fast.tw15853469314438399491 : True := trivial
theorem PySem.W.Fast.tw1881709598121553542 : True := trivial
theorem PySem.W.Fast.tw14696738367400533320 : True := trivial
theorem PySem.W.Fast.tw2483434945753801350 : True := trivial
theorem PySem.W.Fast.tw12026528706528066556 : True := trivial
theorem PySem.W.Fast.tw8260413108300166009 : True := trivial
theorem PySem.W.Fast.tw9095576973566140209 : True := trivial
theorem PySem.W.Fast.tw5911926531127068229 : True := trivial
theorem PySem.W.Fast.tw12857883341415358985 : True := trivial
theorem PySem.W.Fast.tw8149999329251495448 : True := trivial
theorem PySem.W.Fast.tw10537333478917240580 : True := trivial
theorem PySem.W.Fast.tw4976717384620277778 : True := trivial
theorem PySem.W.Fast.tw16477071498949458814 : True := trivial
theorem PySem.W.Fast.tw16229161160626076258 : True := trivial
theorem PySem.W.Fast.tw15411457970590312746 : True := trivial
theorem PySem.W.Fast.tw5195164241257091378 : True := trivial
theorem PySem.W.Fast.tw16190472758567412807 : True := trivial
theorem PySem.W.Fast.tw10528531690985518406 : True := trivial
theorem PySem.W.Fast.tw12197648640130693265 : True := trivial
theorem PySem.W.Fast.tw1284722841393596852 : True := trivial
theorem PySem.W.Fast.tw5221269360968106281 : True := trivial
theorem PySem.W.Fast.tw9920909646699955699 : True := trivial
theorem PySem.W.Fast.tw3057864106597038615 : True := trivial
theorem PySem.W.Fast.tw11069663303685726327 : True := trivial
theorem PySem.W.Fast.tw18155078635230603382 : True := trivial
theorem PySem.W.Fast.tw15147394256513484488 : True := trivial
theorem PySem.W.Fast.tw1904894272443556338 : True := trivial
theorem PySem.W.Fast.tw6257722736921009273 : True := trivial
theorem PySem.W.Fast.tw16256747205563304452 : True := trivial
theorem PySem.W.Fast.tw12208727366781079448 : True := trivial
theorem PySem.W.Fast.tw13738999121136505403 : True := trivial
theorem PySem.W.Fast.tw1303845320931878878 : True := trivial
theorem PySem.W.Fast.tw14501283590602719705 : True := trivial
theorem PySem.W.Fast.tw10889146281053211742 : True := trivial
theorem PySem.W.Fast.tw4341734391728566098 : True := trivial
theorem PySem.W.Fast.tw2722872082204950921 : True := trivial
theorem PySem.W.Fast.tw15102998064119352849 : True := trivial
theorem PySem.W.Fast.tw4921243711513668583 : True := trivial
theorem PySem.W.Fast.tw16577286413878551152 : True := trivial
theorem PySem.W.Fast.tw2874943402745543747 : True := trivial
theorem PySem.W.Fast.tw6625927332669201143 : True := trivial
theorem PySem.W.Fast.tw1144312598928549251 : True := trivial
theorem PySem.W.Fast.tw4055216427017208462 : True := trivial
theorem PySem.W.Fast.tw1189883723994866462 : True := trivial
theorem PySem.W.Fast.tw2887444226658325817 : True := trivial
theorem PySem.W.Fast.tw11181377882907250138 : True := trivial
theorem PySem.W.Fast.tw3066355448485986248 : True := trivial
theorem PySem.W.Fast.tw3380187096056255102 : True := trivial
theorem PySem.W.Fast.tw12581600637220032560 : True := trivial
theorem PySem.W.Fast.tw2238769179745215004 : True := trivial
theorem PySem.W.Fast.tw2972951737765959358 : True := trivial
theorem PySem.W.Fast.tw10644886426373156762 : True := trivial
theorem PySem.W.Fast.tw8550774095655852361 : True := trivial
theorem PySem.W.Fast.tw5851539605057289675 : True := trivial
theorem PySem.W.Fast.tw18441137410496628636 : True := trivial
set_option maxRecDepth 100000 in
set_option maxHeartbeats 0 in
theorem PySem.Challenge.cw_bitfloor_k45_floors_holds : PySem.Challenge.rw_bitfloor_k45_floors.Holds := by
 w_on; o_law; k_head; (case hw => w_witness2)
 k_fill
 refine L2.zamg (l := PySem.Challenge.rw_bitfloor_k45_floors) (n := 63) (k := 14) (x := "_law_script") (CX := L2.CX0) (sp := B17.spLaw) rfl (by decide) rfl ⟨rfl, by decide, by decide⟩ (fun w h Y => PySem.W.kIn_of Y) ?F ?S ?C
 case F =>
  intro w mg fa h KX G hmg
  refine' B17.zarh KX G hmg ?aP ?eFloorError ?eNoText ?eNoSense ?eNoNet ?eNoRow ?eNoTables ?eNoPack ?eNoFloor ?eOutOfFloor ?eNoRoom ?eNoWays ?eNoBits ?a0 ?l0 ?c0 ?k0 ?a1 ?l1 ?c1 ?k1 ?a2 ?l2 ?c2 ?k2 ?a3 ?l3 ?c3 ?k3 ?a4 ?l4 ?c4 ?k4 ?a5 ?l5 ?c5 ?k5 ?a6 ?l6 ?c6 ?k6 ?a7 ?l7 ?c7 ?k7 ?a8 ?l8 ?c8 ?k8 ?a9 ?l9 ?c9 ?k9 ?a10 ?l10 ?c10 ?k10 ?a11 ?l11 ?c11 ?k11 ?a12 ?l12 ?c12 ?k12 ?a13 ?l13 ?c13 ?k13 ?a14 ?l14 ?c14 ?k14 ?a15 ?l15 ?c15 ?k15 ?a16 ?l16 ?c16 ?k16 ?a17 ?l17 ?c17 ?k17 ?a18 ?l18 ?c18 ?k18 ?a19 ?l19 ?c19 ?k19 ?a20 ?l20 ?c20 ?k20 ?a21 ?l21 ?c21 ?k21 ?a22 ?l22 ?c22 ?k22 ?a23 ?l23 ?c23 ?k23 ?a24 ?l24 ?c24 ?k24 ?a25 ?l25 ?c25 ?k25 ?i25 ?pgP ?hdP ?poP ?saP ?mkP ?kcP ?nP_rows ?nP_columns ?nP_tracks ?z_len ?z_range ?z_int ?z_str ?z_isinstance ?z_zip ?z_list ?z_tuple ?z_dict ?z_bool ?z_all ?z_min ?z_sorted ?z_ValueError ?xcR ?xcF ?xsb ?xga ?xgt ?xcl ?xsg ?xtk ?xmo ?w_NoText ?w_NoSense ?w_NoNet ?w_NoRow ?w_NoTables ?w_NoPack ?w_NoFloor ?w_OutOfFloor ?w_NoRoom ?w_NoWays ?w_NoBits ?w_V ?ycR ?ysb ?yga ?ygt ?ycl ?ymo ?v_NoText ?v_NoSense ?v_NoNet ?v_NoRow ?v_NoTables ?v_NoPack ?v_NoFloor ?v_OutOfFloor ?v_NoRoom ?v_NoWays ?v_NoBits ?v_V
  (case aP => k_is)
  (case eFloorError => k_is)
  (case eNoText => k_is)
  (case eNoSense => k_is)
  (case eNoNet => k_is)
  (case eNoRow => k_is)
  (case eNoTables => k_is)
  (case eNoPack => k_is)
  (case eNoFloor => k_is)
  (case eOutOfFloor => k_is)
  (case eNoRoom => k_is)
  (case eNoWays => k_is)
  (case eNoBits => k_is)
  (case a0 => k_is)
  (case l0 => k_is)
  (case c0 => k_is)
  (case k0 => k_is)
  (case a1 => k_is)
  (case l1 => k_is)
  (case c1 => k_is)
  (case k1 => k_is)
  (case a2 => k_is)
  (case l2 => k_is)
  (case c2 => k_is)
  (case k2 => k_is)
  (case a3 => k_is)
  (case l3 => k_is)
  (case c3 => k_is)
  (case k3 => k_is)
  (case a4 => k_is)
  (case l4 => k_is)
  (case c4 => k_is)
  (case k4 => k_is)
  (case a5 => k_is)
  (case l5 => k_is)
  (case c5 => k_is)
  (case k5 => k_is)
  (case a6 => k_is)
  (case l6 => k_is)
  (case c6 => k_is)
  (case k6 => k_is)
  (case a7 => k_is)
  (case l7 => k_is)
  (case c7 => k_is)
  (case k7 => k_is)
  (case a8 => k_is)
  (case l8 => k_is)
  (case c8 => k_is)
  (case k8 => k_is)
  (case a9 => k_is)
  (case l9 => k_is)
  (case c9 => k_is)
  (case k9 => k_is)
  (case a10 => k_is)
  (case l10 => k_is)
  (case c10 => k_is)
  (case k10 => k_is)
  (case a11 => k_is)
  (case l11 => k_is)
  (case c11 => k_is)
  (case k11 => k_is)
  (case a12 => k_is)
  (case l12 => k_is)
  (case c12 => k_is)
  (case k12 => k_is)
  (case a13 => k_is)
  (case l13 => k_is)
  (case c13 => k_is)
  (case k13 => k_is)
  (case a14 => k_is)
  (case l14 => k_is)
  (case c14 => k_is)
  (case k14 => k_is)
  (case a15 => k_is)
  (case l15 => k_is)
  (case c15 => k_is)
  (case k15 => k_is)
  (case a16 => k_is)
  (case l16 => k_is)
  (case c16 => k_is)
  (case k16 => k_is)
  (case a17 => k_is)
  (case l17 => k_is)
  (case c17 => k_is)
  (case k17 => k_is)
  (case a18 => k_is)
  (case l18 => k_is)
  (case c18 => k_is)
  (case k18 => k_is)
  (case a19 => k_is)
  (case l19 => k_is)
  (case c19 => k_is)
  (case k19 => k_is)
  (case a20 => k_is)
  (case l20 => k_is)
  (case c20 => k_is)
  (case k20 => k_is)
  (case a21 => k_is)
  (case l21 => k_is)
  (case c21 => k_is)
  (case k21 => k_is)
  (case a22 => k_is)
  (case l22 => k_is)
  (case c22 => k_is)
  (case k22 => k_is)
  (case a23 => k_is)
  (case l23 => k_is)
  (case c23 => k_is)
  (case k23 => k_is)
  (case a24 => k_is)
  (case l24 => k_is)
  (case c24 => k_is)
  (case k24 => k_is)
  (case a25 => k_is)
  (case l25 => k_is)
  (case c25 => k_is)
  (case k25 => k_is)
  (case i25 => k_is)
  (case pgP => k_is)
  (case hdP => k_is)
  (case poP => k_is)
  (case saP => k_is)
  (case mkP => k_is)
  (case kcP => k_is)
  (case nP_rows => k_is)
  (case nP_columns => k_is)
  (case nP_tracks => k_is)
  (case z_len => k_is)
  (case z_range => k_is)
  (case z_int => k_is)
  (case z_str => k_is)
  (case z_isinstance => k_is)
  (case z_zip => k_is)
  (case z_list => k_is)
  (case z_tuple => k_is)
  (case z_dict => k_is)
  (case z_bool => k_is)
  (case z_all => k_is)
  (case z_min => k_is)
  (case z_sorted => k_is)
  (case z_ValueError => k_is)
  (case xcR => k_exc)
  (case xcF => k_exc)
  (case xsb => k_is)
  (case xga => k_is)
  (case xgt => k_is)
  (case xcl => k_is)
  (case xsg => k_is)
  (case xtk => k_is)
  (case xmo => k_is)
  (case w_NoText => kit_is)
  (case w_NoSense => kit_is)
  (case w_NoNet => kit_is)
  (case w_NoRow => kit_is)
  (case w_NoTables => kit_is)
  (case w_NoPack => kit_is)
  (case w_NoFloor => kit_is)
  (case w_OutOfFloor => kit_is)
  (case w_NoRoom => kit_is)
  (case w_NoWays => kit_is)
  (case w_NoBits => kit_is)
  (case w_V => kit_is)
  (case ysb => k_is)
  (case yga => k_is)
  (case ygt => k_is)
  (case ycl => k_is)
  (case ymo => k_is)
  (case v_NoText => kit_is)
  (case v_NoSense => kit_is)
  (case v_NoNet => kit_is)
  (case v_NoRow => kit_is)
  (case v_NoTables => kit_is)
  (case v_NoPack => kit_is)
  (case v_NoFloor => kit_is)
  (case v_OutOfFloor => kit_is)
  (case v_NoRoom => kit_is)
  (case v_NoWays => kit_is)
  (case v_NoBits => kit_is)
  (case v_V => kit_is)
  (case ycR => k_exc)
 case S => exact fun K H a ns hl hO hS => ⟨a, ns, rfl, L2.Scr.of hS hl hO, fun _ => rfl⟩
 case C => exact fun _ _ _ _ z => z
