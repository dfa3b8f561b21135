import PyProof.Rows.All
import Wide.All
import OpenK.AllK
import Wide.FinOn
import Lean
import PyProof.EqAt
import PyProof.EqKinds
import PyProof.TupleCall
import PyProof.AttrMiss
import PyProof.ConsumeWalk
import KE.KDictOf
import OpenK.KOwn
import PyProof.NsDelKeeps
import KE.KIsAll
import PyProof.Rows.SumAny
import PyProof.NeKinds
import PyProof.SeqI3
import KE.KRevIter
import KE.KSortTup
import PyProof.DictIter
import KE.KDictList
import PyProof.TupleOfGen
import PyProof.DictWalks
import OpenK.KCls
import KE.KItemsList
import PyProof.StrCalls
import PyProof.MinMaxWalk
import PyProof.WalkInts
import PyProof.Rows.CallKwBuiltin
import KE.KMinKey
import PyProof.ExcInit
import PyProof.InstStoreFacts
import KE.BitLaws
import PySem.Challenge.RW_bitfloor_k09_widths
import KE.RegKIsAll
set_option Elab.async false
set_option linter.all false
set_option maxRecDepth 100000
namespace L2
open PySem PySem.Spec PyProof.Rows
abbrev Key := Sum Int Str
def keyIs : Key → Value → Bool
 | .inl k, v => Value.isInt k v
 | .inr x, v => Value.isStrOf x v
def keyH (w : World) : Key → Int
 | .inl k => hashInt k
 | .inr x => hashStr w x
theorem zabn : ∀ {k : Key} {v : Value}, keyIs k v = true → (∃ i t, k = Sum.inl i ∧ v = Value.int i t) ∨ (∃ x t, k = Sum.inr x ∧ v = Value.str x t)
 | .inl i, v, h => by
  obtain ⟨t, e⟩ := Value.isInt_shape (k := i) (v := v) h
  exact .inl ⟨i, t, rfl, e⟩
 | .inr x, v, h => by
  obtain ⟨t, e⟩ := Value.isStrOf_shape (x := x) (v := v) h
  exact .inr ⟨x, t, rfl, e⟩
theorem zajt (i : Int) (t : Tok) : keyIs (.inl i) (.int i t) = true := by simp [keyIs, Value.isInt]
theorem zafd (x : Str) (t : Tok) : keyIs (.inr x) (.str x t) = true := by simp [keyIs, Value.isStrOf]
theorem zao7 (a b : Int) : decide ((Sum.inl a : Key) = Sum.inl b) = (a == b) := by
 by_cases e : a = b
 ·subst e; simp
 ·have h : ¬ (Sum.inl a : Key) = Sum.inl b := fun q => e (Sum.inl.inj q)
  rw [decide_eq_false h]
  exact (beq_eq_false_iff_ne.mpr e).symm
theorem zao8 (a b : Str) : decide ((Sum.inr a : Key) = Sum.inr b) = decide (a = b) := by
 by_cases e : a = b
 ·subst e; simp
 ·have h : ¬ (Sum.inr a : Key) = Sum.inr b := fun q => e (Sum.inr.inj q)
  rw [decide_eq_false h, decide_eq_false e]
theorem zao9 (a : Int) (b : Str) : decide ((Sum.inl a : Key) = Sum.inr b) = false := decide_eq_false (fun q => nomatch q)
theorem zapa (a : Str) (b : Int) : decide ((Sum.inr a : Key) = Sum.inl b) = false := decide_eq_false (fun q => nomatch q)
def mixKind (prog : Program) (w : World) : PySem.KeyKind prog w Key where
 is := keyIs
 hash := keyH w
 inj := fun v a b ha hb => by
  rcases zabn ha with ⟨i, t, rfl, rfl⟩ | ⟨x, t, rfl, rfl⟩
  ·rcases zabn hb with ⟨j, u, rfl, e⟩ | ⟨y, u, rfl, e⟩
   ·injection e with e1 _; rw [e1]
   ·exact nomatch e
  ·rcases zabn hb with ⟨j, u, rfl, e⟩ | ⟨y, u, rfl, e⟩
   ·exact nomatch e
   ·injection e with e1 _; rw [e1]
 byValue := fun k v h => by
  rcases zabn h with ⟨i, t, rfl, rfl⟩ | ⟨x, t, rfl, rfl⟩ <;> rfl
 pyHash := fun hv h => by
  rcases zabn hv with ⟨i, t, rfl, rfl⟩ | ⟨x, t, rfl, rfl⟩
  ·exact wpAny_pyHash_int h
  ·exact wpAny_pyHash_str h
 eqBool := fun hu hv h => by
  rcases zabn hu with ⟨i, t, rfl, rfl⟩ | ⟨x, t, rfl, rfl⟩
  ·rcases zabn hv with ⟨j, u, rfl, rfl⟩ | ⟨y, u, rfl, rfl⟩
   ·rw [zao7] at h; exact wpAny_eqBool_int h
   ·rw [zao9] at h; exact SeqAt.EqAt.int_str i t y u _ _ _ _ h
  ·rcases zabn hv with ⟨j, u, rfl, rfl⟩ | ⟨y, u, rfl, rfl⟩
   ·rw [zapa] at h; exact SeqAt.EqAt.str_int x t j u _ _ _ _ h
   ·rw [zao8] at h; exact wpAny_eqBool_str h
 «strs» := fun k x t v h => by
  rcases zabn h with ⟨i, u, rfl, e⟩ | ⟨y, u, rfl, e⟩
  ·exact nomatch e
  ·injection e with e1 _
   subst e1
   cases v <;> rfl
theorem zah1 (prog : Program) (w : World) (i : Int) (t : Tok) : (mixKind prog w).is (.inl i) (.int i t) = true := zajt i t
theorem zah2 (prog : Program) (w : World) (x : Str) (t : Tok) : (mixKind prog w).is (.inr x) (.str x t) = true := zafd x t
inductive V where
 | non | bl (b : Bool) | int (i : Int) | str (x : Str) | byt (b : Array UInt8) | flt (b : UInt64) | ref (a : Addr) | ty (n : String)
 deriving DecidableEq
def RelV : V → Value → Prop
 | .non, u => u = Value.none
 | .bl b, u => u = Value.bool b
 | .int i, u => ∃ t, u = Value.int i t
 | .str x, u => ∃ t, u = Value.str x t
 | .byt b, u => ∃ t, u = Value.bytes b t
 | .flt b, u => ∃ t, u = Value.float b t
 | .ref a, u => u = Value.ref a
 | .ty n, u => u = Value.type n
abbrev Vals : List V → List Value → Prop := Paired RelV
theorem Vals.length {xs : List V} {us : List Value} (r : Vals xs us) : xs.length = us.length := Paired.length r
theorem Vals.get : ∀ {xs : List V} {us : List Value} {i : Nat} {x : V}, Vals xs us → xs[i]? = some x → ∃ u, us[i]? = some u ∧ RelV x u
 | _, _, _, _, .nil, e => by simp at e
 | _, _, 0, _, .cons r _, e => by simp at e; subst e; exact ⟨_, rfl, r⟩
 | _, _, i + 1, x, .cons _ t, e => by
  obtain ⟨u, h1, h2⟩ := Vals.get (i := i) (x := x) t (by simpa using e)
  exact ⟨u, by simpa using h1, h2⟩
theorem Vals.set {x : V} {u : Value} (r : RelV x u) : ∀ {xs : List V} {us : List Value} (i : Nat), Vals xs us → Vals (xs.set i x) (us.set i u)
 | _, _, _, .nil => .nil
 | _, _, 0, .cons _ t => .cons r t
 | _, _, i + 1, .cons q t => .cons q (Vals.set r i t)
theorem Vals.append : ∀ {xs ys : List V} {us ws : List Value}, Vals xs us → Vals ys ws → Vals (xs ++ ys) (us ++ ws)
 | _, _, _, _, .nil, s => s
 | _, _, _, _, .cons r t, s => .cons r (Vals.append t s)
theorem Vals.take : ∀ {xs : List V} {us : List Value} (n : Nat), Vals xs us → Vals (xs.take n) (us.take n)
 | _, _, 0, _ => .nil
 | _, _, _ + 1, .nil => .nil
 | _, _, n + 1, .cons r t => .cons r (Vals.take n t)
theorem Vals.drop : ∀ {xs : List V} {us : List Value} (n : Nat), Vals xs us → Vals (xs.drop n) (us.drop n)
 | _, _, 0, r => r
 | _, _, _ + 1, .nil => .nil
 | _, _, n + 1, .cons _ t => Vals.drop n t
def RelO : Option V → Option Value → Prop
 | some v, some u => RelV v u
 | none, none => True
 | _, _ => False
def KV {κ : Type} : List (κ × V) → List (κ × Value) → Prop := Paired fun (p : κ × V) (q : κ × Value) => p.1 = q.1 ∧ RelV p.2 q.2
def kV : Key → V
 | .inl i => .int i
 | .inr x => .str x
inductive HO where
 | lst (xs : List V)
 | tup (xs : List V)
 | dK (kvs : List (Key × V)) | dT (kvs : List (List Key × V))
 | set (S : Int → Bool) (n : Nat)
 | ins (C dx : Addr) (fs : List (Str × V))
 | own (x : Addr)
 | xd (fs : List (Str × V))
 | met (f x : Addr)
 | rng (lo hi : Int)
 | frz (o : Obj) (u : HO)
 | tbl (ps : Array Value)
 | ext (φ : Heap → Prop)
abbrev Hp := Addr → Option HO
def upd (H : Hp) (a : Addr) (o : HO) : Hp := fun b => if b = a then some o else H b
theorem zaah {H : Hp} {a : Addr} {o : HO} : upd H a o a = some o := by unfold upd; rw [if_pos rfl]
theorem zaav {H : Hp} {a b : Addr} {o : HO} (h : b ≠ a) : upd H a o b = H b := by unfold upd; rw [if_neg h]
theorem zacc {H : Hp} {a b : Addr} {o u : HO} (h : H a = some o) (h' : H b = some u) (d : o ≠ u) : a ≠ b := by
 intro e; subst e; rw [h] at h'; exact d (Option.some.inj h')
theorem zabe {H : Hp} {a b : Addr} {o : HO} (h : H a = some o) (h' : H b = none) : a ≠ b := by
 intro e; subst e; rw [h] at h'; cases h'
section
variable (P : Program) (w : World)
def ObjOk (H : Hp) (h : Heap) (a : Addr) : HO → Prop
 | .lst xs => xs.length ≤ sizeLine ∧ ∃ (its : List Value) (n : Nat), Vals xs its ∧ h.get? a = some { cls := .type "list", data := .seq its.toArray n }
 | .tup xs => xs.length ≤ sizeLine ∧ ∃ its : List Value, Vals xs its ∧ IsTup h a its.toArray
 | .dK kvs => kvs.length ≤ sizeLine ∧ (a == sysModules) = false ∧ ∃ vs, KV kvs vs ∧ h.DictOf (mixKind P w) a vs
 | .dT kvs => kvs.length ≤ sizeLine ∧ (a == sysModules) = false ∧ ∃ xs : List (List Key × Addr × Value),
   Paired (fun (p : List Key × V) (q : List Key × Addr × Value) => p.1 = q.1 ∧ H q.2.1 = some (.tup (p.1.map kV)) ∧ RelV p.2 q.2.2) kvs xs ∧
   ∃ o es ep, h.get? a = some o ∧ o.ExactDict ∧ o.data = .dict es ep ∧ es.toList = xs.map (entryOfKey (tupleKind (mixKind P w))) ∧ (xs.map (·.1)).Nodup
 | .set S n => h.SetOf (intKind P w) a S n
 | .ins C dx fs => H dx = some (.own a) ∧ fs.length ≤ 1000 ∧ dx ≠ a ∧ h.get? a = some (PySem.W.instObj C dx) ∧
   ∃ mA, h.Ns1 dx mA ∧ (∀ f, RelO (fs.lookup f) (mA f)) ∧ PySem.Within mA (fs.map (·.1))
 | .own _ => ∃ o, h.get? a = some o
 | .xd fs => ∃ mA, h.Ns1 a mA ∧ ∀ f, RelO (fs.lookup f) (mA f)
 | .rng lo hi => ∃ t u v, h.get? a = some { cls := .type "range", data := .fields #[.int lo t, .int hi u, .int 1 v] }
 | .frz o u => h.get? a = some o ∧ ObjOk H h a u
 | .tbl ps => h.get? a = some { cls := .none, data := .fields ps }
 | .met f x => h.get? a = some (PySem.W.methodObj (.ref f) (.ref x))
 | .ext φ => φ h ∧ (∃ o, h.get? a = some o) ∧ ∀ h1 h2 : Heap, φ h1 → (∀ o, h1.get? a = some o → h2.get? a = some o) → φ h2
def HOk (H : Hp) (h : Heap) : Prop := ∀ a o, H a = some o → ObjOk P w H h a o
end
section
variable {P : Program} {w : World} {H H' : Hp} {h h' : Heap} {a : Addr} {o : HO}
theorem ObjOk.lt (x : ObjOk P w H h a o) : a < h.objs.size := by
 cases o with
 | lst xs => obtain ⟨_, _, _, _, e⟩ := x; exact Heap.lt_size e
 | tup xs => obtain ⟨_, _, _, p⟩ := x; exact p.lt
 | dK kvs => obtain ⟨_, _, _, _, o, _, _, e, _⟩ := x; exact Heap.lt_size e
 | dT kvs => obtain ⟨_, _, _, _, o, _, _, e, _⟩ := x; exact Heap.lt_size e
 | set S n => obtain ⟨o, _, _, _, e, _⟩ := x; exact Heap.lt_size e
 | ins C dx fs => obtain ⟨_, _, _, e, _⟩ := x; exact Heap.lt_size e
 | own y => obtain ⟨_, e⟩ := x; exact Heap.lt_size e
 | xd fs => obtain ⟨_, ⟨_, _, _, e, _⟩, _⟩ := x; exact Heap.lt_size e
 | rng lo hi => obtain ⟨_, _, _, e⟩ := x; exact Heap.lt_size e
 | frz ob u => obtain ⟨e, _⟩ := x; exact Heap.lt_size e
 | tbl ps => exact Heap.lt_size (show h.get? a = some _ from x)
 | met f y => exact Heap.lt_size (show h.get? a = some _ from x)
 | ext φ => obtain ⟨_, ⟨_, e⟩, _⟩ := x; exact Heap.lt_size e
theorem Paired.mapP {α β : Type} {F G : α → β → Prop} : ∀ {l₁ : List α} {l₂ : List β}, Paired F l₁ l₂ → (∀ a b, F a b → G a b) → Paired G l₁ l₂
 | _, _, .nil, _ => .nil
 | _, _, .cons r t, f => .cons (f _ _ r) (Paired.mapP t f)
theorem ObjOk.stay (x : ObjOk P w H h a o) (k : ∀ b u, (b = a ∨ H b = some (.own a)) → h.get? b = some u → h'.get? b = some u)
  (ho : ∀ b, H b = some (.own a) → H' b = some (.own a)) (ht : ∀ b xs, H b = some (.tup xs) → H' b = some (.tup xs)) : ObjOk P w H' h' a o := by
 induction o with
 | lst xs => obtain ⟨z, its, n, r, e⟩ := x; exact ⟨z, its, n, r, k _ _ (.inl rfl) e⟩
 | tup xs => obtain ⟨z, its, r, ob, e, c⟩ := x; exact ⟨z, its, r, ob, k _ _ (.inl rfl) e, c⟩
 | dK kvs => obtain ⟨z, y, vs, r, ob, es, ep, e, c⟩ := x; exact ⟨z, y, vs, r, ob, es, ep, k _ _ (.inl rfl) e, c⟩
 | dT kvs =>
  obtain ⟨z, y, xs, r, ob, es, ep, e, c⟩ := x
  exact ⟨z, y, xs, Paired.mapP r fun p q z => ⟨z.1, ht _ _ z.2.1, z.2.2⟩, ob, es, ep, k _ _ (.inl rfl) e, c⟩
 | set S n => obtain ⟨ob, es, ep, t, e, c⟩ := x; exact ⟨ob, es, ep, t, k _ _ (.inl rfl) e, c⟩
 | ins C dx fs =>
  obtain ⟨d, z, ne, e, mA, ⟨od, es, ep, e2, c⟩, r⟩ := x
  exact ⟨ho _ d, z, ne, k _ _ (.inl rfl) e, mA, ⟨od, es, ep, k _ _ (.inr d) e2, c⟩, r⟩
 | own y => obtain ⟨ob, e⟩ := x; exact ⟨ob, k _ _ (.inl rfl) e⟩
 | xd fs => obtain ⟨mA, ⟨od, es, ep, e, c⟩, r⟩ := x; exact ⟨mA, ⟨od, es, ep, k _ _ (.inl rfl) e, c⟩, r⟩
 | rng lo hi => obtain ⟨t, u, v, e⟩ := x; exact ⟨t, u, v, k _ _ (.inl rfl) e⟩
 | frz ob u ih => obtain ⟨e, q⟩ := x; exact ⟨k _ _ (.inl rfl) e, ih q⟩
 | tbl ps =>
  have e : h.get? a = some { cls := .none, data := .fields ps } := x
  show h'.get? a = some { cls := .none, data := .fields ps }
  exact k a _ (.inl rfl) e
 | met f y =>
  have e : h.get? a = some (PySem.W.methodObj (.ref f) (.ref y)) := x
  show h'.get? a = some (PySem.W.methodObj (.ref f) (.ref y))
  exact k a _ (.inl rfl) e
 | ext φ => obtain ⟨p, ⟨o, e⟩, st⟩ := x; exact ⟨st _ _ p fun o q => k _ _ (.inl rfl) q, ⟨o, k _ _ (.inl rfl) e⟩, st⟩
theorem HOk.lt (x : HOk P w H h) (e : H a = some o) : a < h.objs.size := (x a o e).lt
theorem HOk.fresh (x : HOk P w H h) (e : h.objs.size ≤ a) : H a = none := by
 cases q : H a with
 | none => rfl
 | some u => exact absurd (Nat.lt_of_lt_of_le (x.lt q) e) (Nat.lt_irrefl _)
theorem HOk.kept (x : HOk P w H h) (k : ∀ b u, h.get? b = some u → h'.get? b = some u) : HOk P w H h' := fun a o e =>
 (x a o e).stay (fun b u _ q => k b u q) (fun _ q => q) fun _ _ q => q
theorem HOk.laid (x : HOk P w H h) (k : ∀ b u, h.get? b = some u → h'.get? b = some u) (hp : h.objs.size ≤ a) (new : ObjOk P w (upd H a o) h' a o) : HOk P w (upd H a o) h' := fun b u e => by
 have hn := x.fresh hp
 by_cases hb : b = a
 ·subst hb; rw [zaah] at e; cases e; exact new
 ·rw [zaav hb] at e
  exact (x b u e).stay (fun c v _ q => k c v q) (fun c q => by rw [zaav (zabe q hn)]; exact q) fun c xs q => by rw [zaav (zabe q hn)]; exact q
end
def Rd (H : Hp) (a : Addr) (u : HO) : Prop := H a = some u ∨ ∃ o, H a = some (.frz o u)
theorem Rd.ok {P : Program} {w : World} {H : Hp} {h : Heap} {a : Addr} {u : HO} (r : Rd H a u) (x : HOk P w H h) : ObjOk P w H h a u := by
 rcases r with r | ⟨o, r⟩
 ·exact x a u r
 ·obtain ⟨_, q⟩ := x a _ r
  exact q
def Mut : Option HO → Prop
 | some (.lst _) => True
 | some (.dK _) => True
 | some (.dT _) => True
 | some (.set _ _) => True
 | some (.ins _ _ _) => True
 | some (.ext _) => True
 | _ => False
section
variable {P : Program} {w : World} {H : Hp} {h h' : Heap} {x e : Addr} {o' : HO}
theorem HOk.write (ok : HOk P w H h) (mu : Mut (H x)) (he : e = x ∨ H e = some (.own x)) (k : ∀ b u, b ≠ e → h.get? b = some u → h'.get? b = some u) (heo : ∃ u, h'.get? e = some u)
  (new : ObjOk P w (upd H x o') h' x o') : HOk P w (upd H x o') h' := fun b u q => by
 have nown : ∀ c y, H c = some (.own y) → c ≠ x := fun c y r z => by subst z; rw [r] at mu; exact mu
 have ntup : ∀ c xs, H c = some (.tup xs) → c ≠ x := fun c xs r z => by subst z; rw [r] at mu; exact mu
 by_cases hb : b = x
 ·subst hb; rw [zaah] at q; cases q; exact new
 ·rw [zaav hb] at q
  by_cases hbe : b = e
  ·have q' : H b = some (.own x) := by
    rcases he with z | z
    ·exact absurd (hbe.trans z) hb
    ·rw [hbe]; exact z
   rw [q] at q'; cases q'
   obtain ⟨v, hv⟩ := heo
   exact ⟨v, by rw [hbe]; exact hv⟩
  ·refine (ok b u q).stay (fun c v hc r => k c v ?_ r) (fun c r => by rw [zaav (nown c b r)]; exact r) fun c xs r => by rw [zaav (ntup c xs r)]; exact r
   rcases hc with rfl | hc
   ·exact hbe
   ·rintro rfl
    rcases he with z | z
    ·exact nown c b hc z
    ·rw [hc] at z; cases z; exact hb rfl
end
structure Un (fs ex : List Addr) (H H' : Hp) (h h' : Heap) : Prop where
 keep : ∀ b o, h.get? b = some o → H b = none → b ∉ fs → b ∉ ex → h'.get? b = some o
 slot : ∀ b o, h.get? b = some o → H b = none → b ∈ fs → b ∉ ex → ∃ sl, h'.get? b = some { o with slots := sl }
 free : ∀ b o, h.get? b = some o → H b = none → b ∉ ex → H' b = none
 there : ∀ b o, h.get? b = some o → b ∉ ex → ∃ o', h'.get? b = some o'
 tups : ∀ b xs, H b = some (.tup xs) → H' b = some (.tup xs)
 frzs : ∀ b o u, H b = some (.frz o u) → H' b = some (.frz o u)
 tbls : ∀ b ps, H b = some (.tbl ps) → ∃ more, H' b = some (.tbl (ps ++ more))
section
variable {fs fs' ex ex' : List Addr} {H H1 H2 : Hp} {h h1 h2 h' : Heap} {a x e : Addr} {o : HO}
theorem Un.any (u : Un fs ex H H1 h h1) {b : Addr} {ob : Obj} (q : h.get? b = some ob) (n : H b = none) (hx : b ∉ ex) : ∃ sl, h1.get? b = some { ob with slots := sl } := by
 by_cases hb : b ∈ fs
 ·exact u.slot b ob q n hb hx
 ·exact ⟨ob.slots, u.keep b ob q n hb hx⟩
theorem Un.kept (k : ∀ b u, h.get? b = some u → h'.get? b = some u) : Un fs ex H H h h' :=
 ⟨fun b ob q _ _ _ => k b ob q, fun b ob q _ _ _ => ⟨ob.slots, k b ob q⟩, fun _ _ _ n _ => n, fun b ob q _ => ⟨ob, k b ob q⟩, fun _ _ q => q, fun _ _ _ q => q, fun _ ps q => ⟨#[], by rw [q]; simp⟩⟩
theorem Un.refl : Un fs ex H H h h := Un.kept fun _ _ q => q
theorem Un.laid (k : ∀ b u, h.get? b = some u → h'.get? b = some u) (hp : h.objs.size ≤ a) (hn : H a = none) : Un fs ex H (upd H a o) h h' where
 keep := fun b u q _ _ _ => k b u q
 slot := fun b u q _ _ _ => ⟨u.slots, k b u q⟩
 free := fun b u q n _ => by rw [zaav (Nat.ne_of_lt (Nat.lt_of_lt_of_le (Heap.lt_size q) hp))]; exact n
 there := fun b u q _ => ⟨u, k b u q⟩
 tups := fun b xs q => by rw [zaav (zabe q hn)]; exact q
 frzs := fun b u xs q => by rw [zaav (zabe q hn)]; exact q
 tbls := fun b ps q => ⟨#[], by rw [zaav (zabe q hn), q]; simp⟩
theorem Un.write (mu : Mut (H x)) (he : e = x ∨ H e = some (.own x)) (k : ∀ b u, b ≠ e → h.get? b = some u → h'.get? b = some u) (heo : ∃ u, h'.get? e = some u) : Un fs ex H (upd H x o) h h' := by
 have hx : ∀ b, H b = none → b ≠ x := fun b n z => by subst z; rw [n] at mu; exact mu
 have hb : ∀ b, H b = none → b ≠ e := fun b n z => by
  subst z
  rcases he with r | r
  ·exact hx b n r
  ·rw [n] at r; cases r
 have hm : ∀ b u, H b = some u → ¬ Mut (some u) → b ≠ x := fun b u q nm z => by subst z; rw [q] at mu; exact nm mu
 refine ⟨fun b u q n _ _ => k b u (hb b n) q, fun b u q n _ _ => ⟨u.slots, k b u (hb b n) q⟩, fun b u q n _ => by rw [zaav (hx b n)]; exact n, fun b u q _ => ?_,
  fun b xs q => by rw [zaav (hm b _ q fun z => z)]; exact q, fun b u xs q => by rw [zaav (hm b _ q fun z => z)]; exact q, fun b ps q => ⟨#[], by rw [zaav (hm b _ q fun z => z), q]; simp⟩⟩
 by_cases hbe : b = e
 ·subst hbe; exact heo
 ·exact ⟨u, k b u hbe q⟩
end
def trk (h : Heap) (H : Hp) : List Addr := (List.range h.objs.size).filter fun a => (H a).isSome
def hidT (h : Heap) (H : Hp) : Heap := PySem.W.hideAll h (trk h H)
theorem zaju (h : Heap) (H : Hp) : (hidT h H).objs.size = h.objs.size := PySem.W.hideAll_size _ _
theorem zalj {h : Heap} {H : Hp} {b : Addr} {o : Obj} (e : h.get? b = some o) (n : H b = none) : (hidT h H).get? b = some o :=
 PySem.W.hideAll_get _ e fun hm => by
  have q : (H b).isSome = true := (List.mem_filter.mp hm).2
  rw [n] at q; simp at q
theorem zanc {h : Heap} {H : Hp} {b : Addr} {o : Obj} (e : (hidT h H).get? b = some o) : h.get? b = some o ∧ H b = none := by
 have e' : h.get? b = some o := PySem.W.of_hideAll (trk h H) e
 refine ⟨e', ?_⟩
 cases q : H b with
 | none => rfl
 | some x =>
  have hm : b ∈ trk h H := List.mem_filter.mpr ⟨List.mem_range.mpr (Heap.lt_size e'), by simp [q]⟩
  have z : (hidT h H).get? b = none := PySem.W.hideAll_none (trk h H) hm
  rw [z] at e; cases e
def allNews (g h : Heap) (L : Addr) : List (Addr × Obj) := (List.range h.objs.size).filterMap fun a => if a = L ∨ (g.get? a).isSome = true then none else (h.get? a).map fun o => (a, o)
def rest (g h : Heap) (L d : Addr) : List (Addr × Obj) := (allNews g h L).filter fun p => decide (p.1 ≠ d)
structure Mod (K : PySem.W.Frag) (mg : Str → Option Value) (base : Heap) : Prop where
 kin : K.In base
 glob : base.Ns mainGlobals mg
 blt : ∃ mb, base.Ns builtinsNs mb ∧ ∀ x : Str, x ≠ "__name__" → mb x = bootBuiltins x
 nolimit : base.NoLimit
structure Cx where
 prog : Program
 w : World
 K : PySem.W.Frag
 mg : Str → Option Value
 base : Heap
 A : Around
 N : List Str
 s₀ : Shared
 H₀ : Hp
 env : Env
 outer : List Env
 stack : List Env
 ex : List Addr
 fn : Str → Bool
 calm : Bool
 pn : List (Addr × Obj)
 xe : Value → Shared → Prop
def frs (l : List Env) : List Addr := l.filterMap (·.frame)
abbrev Cx.fs (X : Cx) : List Addr := frs X.outer
def Vis (sc : Scope) (x : Str) : Prop := sc.names.lookup x = some .local ∨ sc.names.lookup x = some .cell ∨ sc.names.lookup x = some .free
def Loc (sc : Scope) (x : Str) : Prop := sc.names.lookup x = some .local ∨ sc.names.lookup x = some .cell
def Look (env : Env) (h : Heap) (m : Str → Option Value) (x : Str) (u : Value) : Prop :=
 (env.kindOf x = some .local ∧ m x = some u) ∨ ((env.kindOf x = some .cell ∨ env.kindOf x = some .free) ∧ ∃ c, env.cells.lookup x = some c ∧ h.IsCell c (some u))
structure Cx.Ok (X : Cx) : Prop where
 mod : Mod X.K X.mg X.base
 kind : X.env.scope.kind = .function
 glob : X.env.globals = mainGlobals
 blt : X.env.builtins = builtinsNs
 above : X.s₀.heap.objs.size ≤ X.env.locals
 inj : ∀ x y c, X.env.cells.lookup x = some c → X.env.cells.lookup y = some c → x = y
 has : ∀ x, (X.env.kindOf x = some .cell ∨ X.env.kindOf x = some .free) → ∃ c, X.env.cells.lookup x = some c
 cab : ∀ x c, X.fn x = true → X.env.cells.lookup x = some c → X.s₀.heap.objs.size ≤ c
 hd : X.calm = true → X.A.handled = none
 frames : X.A.frames = some X.stack
 stk : X.stack = X.outer ∨ (X.stack = X.env :: X.outer ∧ X.env.frame = some X.env.locals)
 exf : ∀ b ∈ X.ex, b ≠ X.env.locals ∧ ∀ x c, X.env.cells.lookup x = some c → c ≠ b
 bs : ∀ b o, X.base.get? b = some o → X.s₀.heap.get? b = some o ∧ X.H₀ b = none
 bsz : X.base.objs.size ≤ X.s₀.heap.objs.size
 noex : ∀ b o, X.base.get? b = some o → b ∉ X.ex
 exfs : ∀ b ∈ X.ex, b ∉ X.fs
 funs : X.s₀.heap.FunFrames X.base X.outer
 frf : ∀ b ∈ X.fs, X.H₀ b = none
structure Inv (X : Cx) (pins : List (Addr × Obj)) (σ : List (Option V)) (H : Hp) (s : Shared) : Prop where
 ok : X.Ok
 os : s.os = X.s₀.os
 bare : AllBare s.gens
 base : Un X.fs X.ex X.H₀ H X.s₀.heap s.heap
 loc : ∃ m, s.heap.Ns X.env.locals m ∧ ∀ (i : Nat) (x : Str) (v : V), X.N[i]? = some x → σ[i]? = some (some v) → Vis X.env.scope x → ∃ u, RelV v u ∧ Look X.env s.heap m x u
 cell : ∀ x c, X.env.cells.lookup x = some c → ∃ v, s.heap.IsCell c v
 free : H X.env.locals = none
 freeC : ∀ x c, X.env.cells.lookup x = some c → H c = none
 pin : ∀ p ∈ X.pn ++ pins, s.heap.get? p.1 = some p.2 ∧ H p.1 = none ∧ p.1 ≠ X.env.locals ∧ p.1 ∉ X.fs ∧ ∀ v, p.2.data ≠ .cell v
 hok : HOk X.prog X.w H s.heap
 len : σ.length = X.N.length
section
variable {X : Cx} {pins : List (Addr × Obj)} {σ : List (Option V)} {H H' : Hp} {s : Shared} {h' : Heap}
theorem Cx.Ok.nofr (ok : X.Ok) {b : Addr} {o : Obj} (e : X.base.get? b = some o) : b ∉ X.fs := fun hb => by
 have := (ok.funs.mem hb).1
 rw [e] at this; cases this
theorem Inv.bs (I : Inv X pins σ H s) : ∀ b o, X.base.get? b = some o → s.heap.get? b = some o ∧ H b = none := fun b o e =>
 ⟨I.base.keep b o (I.ok.bs b o e).1 (I.ok.bs b o e).2 (I.ok.nofr e) (I.ok.noex b o e), I.base.free b o (I.ok.bs b o e).1 (I.ok.bs b o e).2 (I.ok.noex b o e)⟩
theorem Inv.bk (I : Inv X pins σ H s) : ∀ b o, X.base.get? b = some o → s.heap.get? b = some o := fun b o e => (I.bs b o e).1
theorem Inv.mod (I : Inv X pins σ H s) : Mod X.K X.mg X.base := I.ok.mod
theorem Inv.kIn (I : Inv X pins σ H s) : X.K.In s.heap := I.ok.mod.kin.keeps I.bk
theorem Inv.lt (I : Inv X pins σ H s) : X.env.locals < s.heap.objs.size := let ⟨_, hn, _⟩ := I.loc; hn.lt
theorem Inv.sz (I : Inv X pins σ H s) : X.s₀.heap.objs.size ≤ s.heap.objs.size := Nat.le_trans I.ok.above (Nat.le_of_lt I.lt)
theorem Inv.nofs (I : Inv X pins σ H s) {a : Addr} (h : s.heap.objs.size ≤ a) : a ∉ X.fs := fun hb => by
 obtain ⟨_, o, ho, _⟩ := I.ok.funs.mem hb
 exact absurd (Nat.lt_of_lt_of_le (Heap.lt_size ho) (Nat.le_trans I.sz h)) (Nat.lt_irrefl _)
theorem Inv.cne (I : Inv X pins σ H s) : ∀ x c, X.env.cells.lookup x = some c → c ≠ X.env.locals := fun x c e z => by
 obtain ⟨v, o, ho, hd⟩ := I.cell x c e
 obtain ⟨m, ⟨o', es, ep, ho', hd', _⟩, _⟩ := I.loc
 rw [z, ho'] at ho; cases ho; rw [hd'] at hd; cases hd
theorem Inv.funs (I : Inv X pins σ H s) : s.heap.FunFrames X.base X.outer := by
 have all : ∀ (l : List Env), (∀ b ∈ frs l, b ∈ X.fs) → X.s₀.heap.FunFrames X.base l → s.heap.FunFrames X.base l := by
  intro l
  induction l with
  | nil => intro _ _; trivial
  | cons env r ih =>
   intro hs hl
   obtain ⟨hk, ⟨L, o, hf, hn, ho, hd⟩, hr⟩ := hl
   have hL : L ∈ X.fs := hs L (by unfold frs; rw [List.filterMap_cons, hf]; exact List.mem_cons_self)
   obtain ⟨sl, e⟩ := I.base.slot L o ho (I.ok.frf L hL) hL fun z => I.ok.exfs L z hL
   exact ⟨hk, ⟨L, _, hf, hn, e, hd⟩, ih (fun b hb => hs b (by unfold frs; rw [List.filterMap_cons, hf]; exact List.mem_cons_of_mem _ hb)) hr⟩
 exact all X.outer (fun _ hb => hb) I.ok.funs
theorem Inv.stack (I : Inv X pins σ H s) : s.heap.FunFrames X.base X.stack := by
 rcases I.ok.stk with e | ⟨e, hf⟩
 ·rw [e]; exact I.funs
 ·rw [e]
  obtain ⟨m, hn, _⟩ := I.loc
  refine .cons (by rw [I.ok.kind]; decide) hf hn ?_ I.funs
  exact Heap.get?_none_of_le (Nat.le_trans I.ok.bsz I.ok.above)
theorem Inv.stkSub (I : Inv X pins σ H s) : ∀ b ∈ frs X.stack, b ∈ X.env.locals :: X.fs := fun b hb => by
 rcases I.ok.stk with e | ⟨e, hf⟩
 ·rw [e] at hb; exact List.mem_cons_of_mem _ hb
 ·rw [e] at hb
  unfold frs at hb
  rw [List.filterMap_cons, hf] at hb
  exact hb
theorem Inv.stkFree (I : Inv X pins σ H s) : ∀ b ∈ frs X.stack, H b = none := fun b hb => by
 rcases List.mem_cons.mp (I.stkSub b hb) with e | hb
 ·rw [e]; exact I.free
 ·obtain ⟨_, o, ho, _⟩ := I.ok.funs.mem hb
  exact I.base.free b o ho (I.ok.frf b hb) fun z => I.ok.exfs b z hb
theorem Inv.step {g' : Array GenState} {t' : Nat} {d' : Drawn} {ch : List Addr} (I : Inv X pins σ H s)
  (hch : ∀ b ∈ ch, (b ∈ X.ex ∨ X.s₀.heap.objs.size ≤ b) ∧ b ≠ X.env.locals ∧ (∀ x c, X.env.cells.lookup x = some c → c ≠ b) ∧ ∀ p ∈ X.pn ++ pins, p.1 ≠ b)
  (keep : ∀ b o, b ≠ X.env.locals → b ∉ X.fs → b ∉ ch → s.heap.get? b = some o → H b = none → h'.get? b = some o)
  (slot : ∀ b o, b ≠ X.env.locals → b ∈ X.fs → b ∉ ch → s.heap.get? b = some o → H b = none → ∃ sl, h'.get? b = some { o with slots := sl }) (free : ∀ b o, b ∉ ch → s.heap.get? b = some o → H b = none → H' b = none)
  (there : ∀ b o, b ∉ ch → s.heap.get? b = some o → ∃ o', h'.get? b = some o')
  (tups : ∀ b xs, H b = some (.tup xs) → H' b = some (.tup xs)) (frzs : ∀ b o u, H b = some (.frz o u) → H' b = some (.frz o u)) (tbls : ∀ b ps, H b = some (.tbl ps) → ∃ more, H' b = some (.tbl (ps ++ more)))
  (ns : ∀ m, s.heap.Ns X.env.locals m → h'.Ns X.env.locals m) (hok : HOk X.prog X.w H' h') (hg : AllBare g') :
  Inv X pins σ H' { s with heap := h', gens := g', drawn := d', toks := t' } := by
 have neL : ∀ b o, X.s₀.heap.get? b = some o → b ≠ X.env.locals := fun b o e => Nat.ne_of_lt (Nat.lt_of_lt_of_le (Heap.lt_size e) I.ok.above)
 have neC : ∀ b o, X.s₀.heap.get? b = some o → b ∉ X.ex → b ∉ ch := fun b o e hx hb => by
  rcases (hch b hb).1 with z | z
  ·exact hx z
  ·exact absurd (Nat.lt_of_lt_of_le (Heap.lt_size e) z) (Nat.lt_irrefl _)
 have cellK : ∀ x c, X.env.cells.lookup x = some c → ∀ v, s.heap.IsCell c v → h'.IsCell c v := fun x c e v ⟨o, ho, hd⟩ => by
  have nch : c ∉ ch := fun z => (hch c z).2.2.1 x c e rfl
  by_cases hc : c ∈ X.fs
  ·obtain ⟨sl, q⟩ := slot c o (I.cne x c e) hc nch ho (I.freeC x c e)
   exact ⟨_, q, hd⟩
  ·exact ⟨o, keep c o (I.cne x c e) hc nch ho (I.freeC x c e), hd⟩
 refine ⟨I.ok, I.os, hg, ⟨fun b o e n hb hx => ?_, fun b o e n hb hx => ?_, fun b o e n hx => ?_, fun b o e hx => ?_, fun b xs e => tups b xs (I.base.tups b xs e), fun b o xs e => frzs b o xs (I.base.frzs b o xs e), fun b ps e => ?_⟩, ?_, fun x c e => ?_, ?_, fun x c e => ?_, fun p hp => ?_, hok, I.len⟩
 ·exact keep b o (neL b o e) hb (neC b o e hx) (I.base.keep b o e n hb hx) (I.base.free b o e n hx)
 ·obtain ⟨sl, e1⟩ := I.base.slot b o e n hb hx
  obtain ⟨sl', e2⟩ := slot b _ (neL b o e) hb (neC b o e hx) e1 (I.base.free b o e n hx)
  exact ⟨sl', e2⟩
 ·obtain ⟨o', e1⟩ := I.base.there b o e hx
  exact free b o' (neC b o e hx) e1 (I.base.free b o e n hx)
 ·obtain ⟨o', e1⟩ := I.base.there b o e hx
  exact there b o' (neC b o e hx) e1
 ·obtain ⟨m1, e1⟩ := I.base.tbls b ps e
  obtain ⟨m2, e2⟩ := tbls b _ e1
  exact ⟨m1 ++ m2, by rw [e2, Array.append_assoc]⟩
 ·obtain ⟨m, hn, hl⟩ := I.loc
  refine ⟨m, ns m hn, fun i x v e1 e2 e3 => ?_⟩
  obtain ⟨u, r, l⟩ := hl i x v e1 e2 e3
  refine ⟨u, r, ?_⟩
  rcases l with l | ⟨k, c, e, z⟩
  ·exact .inl l
  ·exact .inr ⟨k, c, e, cellK x c e _ z⟩
 ·obtain ⟨v, z⟩ := I.cell x c e
  exact ⟨v, cellK x c e v z⟩
 ·obtain ⟨m, ⟨o, _, _, ho, _⟩, _⟩ := I.loc
  exact free _ o (fun z => (hch _ z).2.1 rfl) ho I.free
 ·obtain ⟨v, o, ho, hd⟩ := I.cell x c e
  exact free c o (fun z => (hch c z).2.2.1 x c e rfl) ho (I.freeC x c e)
 ·obtain ⟨e, n, ne, nf, d⟩ := I.pin p hp
  have nch : p.1 ∉ ch := fun z => (hch p.1 z).2.2.2 p hp rfl
  exact ⟨keep p.1 p.2 ne nf nch e n, free p.1 p.2 nch e n, ne, nf, d⟩
theorem Inv.un {t' : Nat} (I : Inv X pins σ H s) (u : Un X.fs [] H H' s.heap h') (hok : HOk X.prog X.w H' h') : Inv X pins σ H' { s with heap := h', toks := t' } := by
 obtain ⟨m, ⟨o, es, ep, ho, r⟩, _⟩ := id I.loc
 obtain ⟨sl, hL⟩ := u.any ho I.free (by simp)
 exact I.step (g' := s.gens) (d' := s.drawn) (ch := []) (fun _ z => nomatch z) (fun b o _ hb _ e n => u.keep b o e n hb (by simp)) (fun b o _ hb _ e n => u.slot b o e n hb (by simp)) (fun b o _ e n => u.free b o e n (by simp)) (fun b o _ e => u.there b o e (by simp)) u.tups u.frzs u.tbls (fun m' hm => by
  obtain ⟨o', es', ep', ho', r'⟩ := hm
  rw [ho] at ho'; cases ho'
  exact ⟨_, es', ep', hL, r'⟩) hok I.bare
theorem Inv.call {g' : Array GenState} {t' : Nat} {d' : Drawn} {ch : List Addr} (I : Inv X pins σ H s) (u : Un (frs X.stack) ch H H' s.heap h') (hok : HOk X.prog X.w H' h') (hg : AllBare g')
  (hch : ∀ b ∈ ch, (b ∈ X.ex ∨ X.s₀.heap.objs.size ≤ b) ∧ b ≠ X.env.locals ∧ (∀ x c, X.env.cells.lookup x = some c → c ≠ b) ∧ ∀ p ∈ X.pn ++ pins, p.1 ≠ b) :
  Inv X pins σ H' { s with heap := h', gens := g', drawn := d', toks := t' } := by
 obtain ⟨m, ⟨o, es, ep, ho, r⟩, _⟩ := id I.loc
 obtain ⟨sl, hL⟩ := u.any ho I.free fun z => (hch _ z).2.1 rfl
 exact I.step (ch := ch) hch (fun b o hL hb hc e n => u.keep b o e n (fun z => (List.mem_cons.mp (I.stkSub b z)).elim hL hb) hc) (fun b o _ _ hc e n => u.any e n hc) (fun b o hc e n => u.free b o e n hc) (fun b o hc e => u.there b o e hc) u.tups u.frzs u.tbls (fun m' hm => by
  obtain ⟨o', es', ep', ho', r'⟩ := hm
  rw [ho] at ho'; cases ho'
  exact ⟨_, es', ep', hL, r'⟩) hok hg
theorem Inv.turned {t' : Nat} {it : Addr} (I : Inv X pins σ H s) (k : ∀ b o, b ≠ it → s.heap.get? b = some o → h'.get? b = some o) (hn : H it = none) (hL : it ≠ X.env.locals)
  (h1 : it ∈ X.ex ∨ X.s₀.heap.objs.size ≤ it) (h2 : ∀ x c, X.env.cells.lookup x = some c → c ≠ it) (h3 : ∀ p ∈ X.pn ++ pins, p.1 ≠ it) : Inv X pins σ H { s with heap := h', toks := t' } := by
 have nit : ∀ b u, H b = some u → b ≠ it := fun b u e z => by rw [z, hn] at e; cases e
 refine I.step (g' := s.gens) (d' := s.drawn) (ch := [it]) (fun b hb => ?_) (fun b o _ _ hc e _ => k b o (fun z => hc (by simp [z])) e) (fun b o _ _ hc e _ => ⟨o.slots, k b o (fun z => hc (by simp [z])) e⟩) (fun _ _ _ _ n => n)
  (fun b o hc e => ⟨o, k b o (fun z => hc (by simp [z])) e⟩) (fun _ _ e => e) (fun _ _ _ e => e) (fun b ps e => ⟨#[], by rw [e]; simp⟩) (fun m hm => ?_) (fun b u e => ?_) I.bare
 ·have e : b = it := by simpa using hb
  subst e
  exact ⟨h1, hL, h2, h3⟩
 ·obtain ⟨o, es, ep, ho, r⟩ := hm
  exact ⟨o, es, ep, k _ o (Ne.symm hL) ho, r⟩
 ·refine (I.hok b u e).stay (fun c v hc q => k c v ?_ q) (fun _ q => q) fun _ _ q => q
  rcases hc with z | z
  ·rw [z]; exact nit b u e
  ·exact nit c _ z
theorem Inv.tok (I : Inv X pins σ H s) (t : Nat) : Inv X pins σ H { s with toks := t } := I.un (h' := s.heap) (t' := t) Un.refl I.hok
theorem Inv.kept {t' : Nat} (I : Inv X pins σ H s) (k : ∀ b u, s.heap.get? b = some u → h'.get? b = some u) : Inv X pins σ H { s with heap := h', toks := t' } := I.un (Un.kept k) (I.hok.kept k)
theorem Inv.laid {a : Addr} {o : HO} {t' : Nat} (I : Inv X pins σ H s) (k : ∀ b u, s.heap.get? b = some u → h'.get? b = some u) (hp : s.heap.objs.size ≤ a) (new : ObjOk X.prog X.w (upd H a o) h' a o) :
  Inv X pins σ (upd H a o) { s with heap := h', toks := t' } := I.un (Un.laid k hp (I.hok.fresh hp)) (I.hok.laid k hp new)
theorem Inv.write {x e : Addr} {o : HO} {t' : Nat} (I : Inv X pins σ H s) (mu : Mut (H x)) (he : e = x ∨ H e = some (.own x)) (k : ∀ b u, b ≠ e → s.heap.get? b = some u → h'.get? b = some u) (heo : ∃ u, h'.get? e = some u)
  (new : ObjOk X.prog X.w (upd H x o) h' x o) : Inv X pins σ (upd H x o) { s with heap := h', toks := t' } := I.un (Un.write mu he k heo) (I.hok.write mu he k heo new)
theorem Inv.pins_of {pins' : List (Addr × Obj)} (I : Inv X pins σ H s) (h : ∀ p ∈ pins', s.heap.get? p.1 = some p.2 ∧ H p.1 = none ∧ p.1 ≠ X.env.locals ∧ p.1 ∉ X.fs ∧ ∀ v, p.2.data ≠ .cell v) : Inv X pins' σ H s :=
 ⟨I.ok, I.os, I.bare, I.base, I.loc, I.cell, I.free, I.freeC, fun p hp => (List.mem_append.mp hp).elim (fun z => I.pin p (List.mem_append_left _ z)) (h p), I.hok, I.len⟩
theorem zagl {N : List Str} (hN : N.Nodup) {i j : Nat} {x : Str} (a : N[i]? = some x) (b : N[j]? = some x) : i = j := by
 obtain ⟨h1, e1⟩ := List.getElem?_eq_some_iff.mp a
 obtain ⟨h2, e2⟩ := List.getElem?_eq_some_iff.mp b
 exact (List.getElem_inj hN).mp (e1.trans e2.symm)
theorem zahd {M : Model} {A : Around} {E : Value → Shared → Prop} {i : Nat} {x : Str} {v : V} {u : Value} {Q : Unit → Shared → Prop} (I : Inv X pins σ H s) (hN : X.N.Nodup) (hi : X.N[i]? = some x) (hx : Loc X.env.scope x) (r : RelV v u)
  (h : ∀ s', Inv X pins (σ.set i (some v)) H s' → (∃ a, Heap.SameBut a s.heap s'.heap ∧ (a = X.env.locals ∨ X.env.cells.lookup x = some a)) → Q () s') (hf : X.fn x = true ∨ X.env.scope.names.lookup x = some .local := by first | exact .inl rfl | exact .inr rfl | assumption) : wpAny M A (storeName X.env x u) Q E s := by
 obtain ⟨m, hn, hl⟩ := id I.loc
 have hcls : (X.env.scope.kind == .class || (X.env.scope.kind == .module && X.env.locals != X.env.globals)) = false := by rw [I.ok.kind]; rfl
 have hiσ : i < σ.length := by rw [I.len]; exact (List.getElem?_eq_some_iff.mp hi).1
 have cne := I.cne
 have tracked : ∀ {a : Addr} {h' : Heap}, (∃ o, s.heap.get? a = some o ∧ H a = none) → Heap.SameBut a s.heap h' → HOk X.prog X.w H h' := fun {a h'} ha hs b ob e => by
  obtain ⟨_, _, hfree⟩ := ha
  refine (I.hok b ob e).stay (fun c w' hc q => (hs.2 c ?_).trans q) (fun _ q => q) fun _ _ q => q
  rintro rfl
  rcases hc with rfl | hc
  ·rw [hfree] at e; cases e
  ·rw [hfree] at hc; cases hc
 rcases hx with hk | hk
 ·refine wpAny_storeName_local hk hn (fun h' hn' hs => ?_) hcls
  obtain ⟨oL, _, _, hoL, _⟩ := id hn
  refine h _ ⟨I.ok, I.os, I.bare, ⟨fun b o e n hb hx => ?_, fun b o e n hb hx => ?_, I.base.free, fun b o e hx => ?_, I.base.tups, I.base.frzs, I.base.tbls⟩, ⟨_, hn', fun j y v' e1 e2 e3 => ?_⟩, fun y c e => ?_, I.free, I.freeC, fun p hp => ?_, tracked ⟨oL, hoL, I.free⟩ hs, by simpa using I.len⟩ ⟨_, hs, .inl rfl⟩
  ·exact (hs.2 b (Nat.ne_of_lt (Nat.lt_of_lt_of_le (Heap.lt_size e) I.ok.above))).trans (I.base.keep b o e n hb hx)
  ·obtain ⟨sl, e1⟩ := I.base.slot b o e n hb hx
   exact ⟨sl, (hs.2 b (Nat.ne_of_lt (Nat.lt_of_lt_of_le (Heap.lt_size e) I.ok.above))).trans e1⟩
  ·obtain ⟨o', e1⟩ := I.base.there b o e hx
   exact ⟨o', (hs.2 b (Nat.ne_of_lt (Nat.lt_of_lt_of_le (Heap.lt_size e) I.ok.above))).trans e1⟩
  ·by_cases hj : j = i
   ·subst hj
    rw [hi] at e1; cases e1
    rw [List.getElem?_set_self hiσ] at e2
    cases e2
    exact ⟨u, r, .inl ⟨hk, by simp⟩⟩
   ·rw [List.getElem?_set_ne (Ne.symm hj)] at e2
    obtain ⟨u', r', q⟩ := hl j y v' e1 e2 e3
    refine ⟨u', r', ?_⟩
    rcases q with ⟨k, e⟩ | ⟨k, c, e, z⟩
    ·refine .inl ⟨k, ?_⟩
     have : y ≠ x := fun e => hj (zagl hN e1 (e ▸ hi))
     simp [this, e]
    ·exact .inr ⟨k, c, e, z.sameBut hs (cne y c e)⟩
  ·obtain ⟨w', z⟩ := I.cell y c e
   exact ⟨w', z.sameBut hs (cne y c e)⟩
  ·obtain ⟨e, n, ne, nf, d⟩ := I.pin p hp
   exact ⟨(hs.2 p.1 ne).trans e, n, ne, nf, d⟩
 ·have hfn : X.fn x = true := by
   rcases hf with z | z
   ·exact z
   ·rw [z] at hk; cases hk
  obtain ⟨c, hc⟩ := I.ok.has x (.inl hk)
  obtain ⟨w', z⟩ := I.cell x c hc
  refine wpAny_storeName_cell I.ok.kind hk hc z (fun h' hc' hs => ?_)
  obtain ⟨oc, hoc, hocd⟩ := id z
  refine h { s with heap := h' } ⟨I.ok, I.os, I.bare, ⟨fun b o e n hb hx => ?_, fun b o e n hb hx => ?_, I.base.free, fun b o e hx => ?_, I.base.tups, I.base.frzs, I.base.tbls⟩, ⟨m, hn.sameBut hs (Ne.symm (cne x c hc)), fun j y v' e1 e2 e3 => ?_⟩, fun y c' e => ?_, I.free, I.freeC, fun p hp => ?_, tracked ⟨oc, hoc, I.freeC x c hc⟩ hs, by simpa using I.len⟩ ⟨c, hs, .inr hc⟩
  ·exact (hs.2 b (Nat.ne_of_lt (Nat.lt_of_lt_of_le (Heap.lt_size e) (I.ok.cab x c hfn hc)))).trans (I.base.keep b o e n hb hx)
  ·obtain ⟨sl, e1⟩ := I.base.slot b o e n hb hx
   exact ⟨sl, (hs.2 b (Nat.ne_of_lt (Nat.lt_of_lt_of_le (Heap.lt_size e) (I.ok.cab x c hfn hc)))).trans e1⟩
  ·obtain ⟨o', e1⟩ := I.base.there b o e hx
   exact ⟨o', (hs.2 b (Nat.ne_of_lt (Nat.lt_of_lt_of_le (Heap.lt_size e) (I.ok.cab x c hfn hc)))).trans e1⟩
  ·by_cases hj : j = i
   ·subst hj
    rw [hi] at e1; cases e1
    rw [List.getElem?_set_self hiσ] at e2
    cases e2
    exact ⟨u, r, .inr ⟨.inl hk, c, hc, hc'⟩⟩
   ·rw [List.getElem?_set_ne (Ne.symm hj)] at e2
    obtain ⟨u', r', q⟩ := hl j y v' e1 e2 e3
    refine ⟨u', r', ?_⟩
    rcases q with q | ⟨k, c', e, z'⟩
    ·exact .inl q
    ·refine .inr ⟨k, c', e, z'.sameBut hs ?_⟩
     rintro rfl
     exact hj (zagl hN e1 (I.ok.inj _ _ _ e hc ▸ hi))
  ·by_cases hcc : c' = c
   ·subst hcc; exact ⟨_, hc'⟩
   ·obtain ⟨w2, z2⟩ := I.cell y c' e
    exact ⟨w2, z2.sameBut hs hcc⟩
  ·obtain ⟨e, n, ne, nf, d⟩ := I.pin p hp
   refine ⟨(hs.2 p.1 ?_).trans e, n, ne, nf, d⟩
   intro q
   rw [q, hoc] at e
   have q' : oc = p.2 := Option.some.inj e
   exact d w' (by rw [← q']; exact hocd)
theorem zae7 {M : Model} {A : Around} {E : Value → Shared → Prop} {i : Nat} {x : Str} {v : V} {u : Value} {Q : Unit → Shared → Prop} (I : Inv X pins σ H s) (hN : X.N.Nodup) (hi : X.N[i]? = some x) (hx : Loc X.env.scope x) (r : RelV v u)
  (h : ∀ s', Inv X pins (σ.set i (some v)) H s' → Q () s') (hf : X.fn x = true ∨ X.env.scope.names.lookup x = some .local := by first | exact .inl rfl | exact .inr rfl | assumption) : wpAny M A (storeName X.env x u) Q E s :=
 zahd I hN hi hx r (fun s' I' _ => h s' I') hf
theorem Inv.call' {s' : Shared} {ch : List Addr} (I : Inv X pins σ H s) (ho : s'.os = s.os) (u : Un (frs X.stack) ch H H' s.heap s'.heap) (hok : HOk X.prog X.w H' s'.heap) (hg : AllBare s'.gens)
  (hch : ∀ b ∈ ch, (b ∈ X.ex ∨ X.s₀.heap.objs.size ≤ b) ∧ b ≠ X.env.locals ∧ (∀ x c, X.env.cells.lookup x = some c → c ≠ b) ∧ ∀ p ∈ X.pn ++ pins, p.1 ≠ b) : Inv X pins σ H' s' := by
 obtain ⟨h', g', d', t', o'⟩ := s'
 have e : o' = s.os := ho
 subst e
 exact I.call (g' := g') (t' := t') (d' := d') u hok hg hch
end
abbrev XK := Value → Option Addr → Hp → Prop
abbrev St := List (Option V)
abbrev VK := V → Hp → Prop
abbrev TE := St → Hp → VK → Prop
abbrev TT := St → Hp → (Bool → Hp → Prop) → Prop
abbrev TA := St → Hp → (List V → Hp → Prop) → Prop
structure Ends where
 nx : St → Hp → Prop
 rt : VK
 bk : St → Hp → Prop := fun _ _ => False
 ct : St → Hp → Prop := fun _ _ => False
abbrev TS := Ends → St → Hp → Prop
def EP (X : Cx) (pins : List (Addr × Obj)) (σ : St) (Q : VK) (u : Value) (s' : Shared) : Prop := ∃ v H', Inv X pins σ H' s' ∧ RelV v u ∧ Q v H'
def TP (X : Cx) (pins : List (Addr × Obj)) (σ : St) (Q : Bool → Hp → Prop) (b : Bool) (s' : Shared) : Prop := ∃ H', Inv X pins σ H' s' ∧ Q b H'
def AP (X : Cx) (pins : List (Addr × Obj)) (σ : St) (Q : List V → Hp → Prop) (us : List Value) (s' : Shared) : Prop := ∃ vs H', Inv X pins σ H' s' ∧ Vals vs us ∧ Q vs H'
def SP (X : Cx) (pins : List (Addr × Obj)) (D : Ends) (f : Flow) (s' : Shared) : Prop :=
 match f with
 | .next => ∃ σ' H', Inv X pins σ' H' s' ∧ D.nx σ' H'
 | .brk => ∃ σ' H', Inv X pins σ' H' s' ∧ D.bk σ' H'
 | .cont => ∃ σ' H', Inv X pins σ' H' s' ∧ D.ct σ' H'
 | .ret u => ∃ v σ' H', Inv X pins σ' H' s' ∧ RelV v u ∧ D.rt v H'
def PE (X : Cx) (e : Expr) (t : TE) : Prop :=
 ∀ (pins : List (Addr × Obj)) (s : Shared) (σ : St) (H : Hp) (Q : VK), Inv X pins σ H s → t σ H Q → wpAny (model X.prog X.w) X.A (eval e X.env) (EP X pins σ Q) X.xe s
def PT (X : Cx) (e : Expr) (t : TT) : Prop :=
 ∀ (pins : List (Addr × Obj)) (s : Shared) (σ : St) (H : Hp) (Q : Bool → Hp → Prop), Inv X pins σ H s → t σ H Q → wpAny (model X.prog X.w) X.A (isTrue e X.env (eval e X.env)) (TP X pins σ Q) X.xe s
def PW (X : Cx) (e : Expr) (t : TT) : Prop :=
 ∀ (whole : Sem Value) (pins : List (Addr × Obj)) (s : Shared) (σ : St) (H : Hp) (Q : Bool → Hp → Prop), Inv X pins σ H s → t σ H Q → wpAny (model X.prog X.w) X.A (isTrue e X.env whole) (TP X pins σ Q) X.xe s
theorem PW.pt {X : Cx} {e : Expr} {t : TT} (h : PW X e t) : PT X e t := h _
def PA (X : Cx) (es : List Expr) (t : TA) : Prop :=
 ∀ (pos : Pos) (pins : List (Addr × Obj)) (s : Shared) (σ : St) (H : Hp) (Q : List V → Hp → Prop), Inv X pins σ H s → t σ H Q → wpAny (model X.prog X.w) X.A (spliced (backTo pos (starEach es X.env))) (AP X pins σ Q) X.xe s
def PS (X : Cx) (st : Stmt) (t : TS) : Prop :=
 ∀ (pins : List (Addr × Obj)) (s : Shared) (σ : St) (H : Hp) (D : Ends), Inv X pins σ H s → t D σ H → wpAny (model X.prog X.w) X.A (exec st X.env) (SP X pins D) X.xe s
def PSs (X : Cx) (st : List Stmt) (t : TS) : Prop :=
 ∀ (pins : List (Addr × Obj)) (s : Shared) (σ : St) (H : Hp) (D : Ends), Inv X pins σ H s → t D σ H → wpAny (model X.prog X.w) X.A (execs st X.env) (SP X pins D) X.xe s
theorem thn {α : Type} {t : Sem α} {Q Q' : α → Shared → Prop} {M : Model} {A : Around} {E : Value → Shared → Prop} {s : Shared} (h : wpAny M A t Q E s) (hQ : ∀ a s, Q a s → Q' a s) : wpAny M A t Q' E s := wpAny_mono h hQ fun _ _ x => x
section
variable {X : Cx}
def tVar (i : Nat) : TE := fun σ H Q => ∃ v, σ[i]? = some (some v) ∧ Q v H
def tC (v : V) : TE := fun _ H Q => Q v H
theorem zapb {i : Nat} {x : Str} {pos : Pos} (hN : X.N[i]? = some x) (hv : Vis X.env.scope x) (hd : (x == ("__debug__" : Str)) = false := by decide) (hcd : (x == ("__classdict__" : Str)) = false := by decide) : PE X (.Name x pos) (tVar i) := by
 intro pins s σ H Q I h
 obtain ⟨v, e, h⟩ := h
 obtain ⟨m, hn, hl⟩ := I.loc
 obtain ⟨u, r, l⟩ := hl i x v hN e hv
 have fin : EP X pins σ Q u s := ⟨v, H, I, r, h⟩
 rcases l with ⟨hk, hm⟩ | ⟨hk, c, hc, hcell⟩
 ·exact wpAny_Name (wpAny_loadName_local I.ok.kind hk hn hm fin) hd
 ·rcases hk with hk | hk
  ·exact wpAny_Name (wpAny_loadName_cell I.ok.kind hk hc hcell fin) hd
  ·exact wpAny_Name (wpAny_loadName_free I.ok.kind hk hc hcell fin hcd) hd
theorem zapc {i j pos} : PE X (.Constant (.int i) j pos) (tC (.int i)) := fun _ _ _ H _ I h => wpAny_Constant_int ⟨.int i, H, I.tok _, ⟨_, rfl⟩, h⟩
theorem zarg {b j pos} : PE X (.Constant (.bool b) j pos) (tC (.bl b)) := fun _ _ _ H _ I h => Constant_bool ⟨.bl b, H, I, rfl, h⟩
theorem zapd {j pos} : PE X (.Constant .none j pos) (tC .non) := fun _ _ _ H _ I h => Constant_none ⟨.non, H, I, rfl, h⟩
theorem zape {x j pos} : PE X (.Constant (.str x) j pos) (tC (.str x)) := fun _ _ _ H _ I h => Calls.Constant_str ⟨.str x, H, I.tok _, ⟨_, rfl⟩, h⟩
def Gl (X : Cx) (x : Str) : Prop := X.env.kindOf x = some .globalImplicit
theorem zaef {E : Value → Shared → Prop} {pins : List (Addr × Obj)} {s : Shared} {σ : St} {H : Hp} {x : Str} {u : Value} {pos : Pos} {Q : Value → Shared → Prop} (I : Inv X pins σ H s) (hg : Gl X x) (hm : X.mg x = some u) (h : Q u s)
  (hd : (x == ("__debug__" : Str)) = false := by decide) : wpAny (model X.prog X.w) X.A (eval (.Name x pos) X.env) Q E s :=
 Calls.Name_function_global I.ok.kind hg (Calls.loadGlobal_global (by rw [I.ok.glob]; exact I.mod.glob.keeps I.bk) hm h) hd
theorem zaf3 {E : Value → Shared → Prop} {pins : List (Addr × Obj)} {s : Shared} {σ : St} {H : Hp} {x : Str} {u : Value} {pos : Pos} {Q : Value → Shared → Prop} (I : Inv X pins σ H s) (hg : Gl X x) (hm : X.mg x = none) (hv : bootBuiltins x = some u) (h : Q u s)
  (hn : x ≠ "__name__" := by decide) (hd : (x == ("__debug__" : Str)) = false := by decide) : wpAny (model X.prog X.w) X.A (eval (.Name x pos) X.env) Q E s := by
 obtain ⟨mb, h1, h2⟩ := I.mod.blt
 exact Calls.Name_function_global I.ok.kind hg (Calls.loadGlobal_builtin (by rw [I.ok.glob]; exact I.mod.glob.keeps I.bk) hm (by rw [I.ok.blt]; exact h1.keeps I.bk) ((h2 x hn).trans hv) h) hd
theorem zajv {x : Str} {v : V} {u : Value} {pos : Pos} (hg : Gl X x) (hm : X.mg x = some u) (r : RelV v u) (hd : (x == ("__debug__" : Str)) = false := by decide) : PE X (.Name x pos) (tC v) :=
 fun _ _ _ H _ I h => zaef I hg hm ⟨v, H, I, r, h⟩ hd
theorem zand {x : Str} {v : V} {u : Value} {pos : Pos} (hg : Gl X x) (hm : X.mg x = none) (hv : bootBuiltins x = some u) (r : RelV v u) (hn : x ≠ "__name__" := by decide) (hd : (x == ("__debug__" : Str)) = false := by decide) : PE X (.Name x pos) (tC v) :=
 fun _ _ _ H _ I h => zaf3 I hg hm hv ⟨v, H, I, r, h⟩ hn hd
def t2I (ta tb : TE) (k : Int → Int → Hp → Prop) : St → Hp → Prop := fun σ H => ta σ H fun x H1 => tb σ H1 fun y H2 => ∃ i j, x = .int i ∧ y = .int j ∧ k i j H2
def tAdd (ta tb : TE) : TE := fun σ H Q => t2I ta tb (fun i j H2 => Q (.int (i + j)) H2) σ H
def tSub (ta tb : TE) : TE := fun σ H Q => t2I ta tb (fun i j H2 => Q (.int (i - j)) H2) σ H
def tMul (ta tb : TE) : TE := fun σ H Q => t2I ta tb (fun i j H2 => (-(2 ^ 64) < i ∧ i < 2 ^ 64) ∧ Q (.int (i * j)) H2) σ H
variable {a b : Expr} {ta tb : TE} {pos : Pos}
def PC (X : Cx) (op : CmpOp) (a b : Expr) (t : TE) : Prop :=
 ∀ (pins : List (Addr × Obj)) (s : Shared) (σ : St) (H : Hp) (Q : VK), Inv X pins σ H s → t σ H Q →
  wpAny (model X.prog X.w) X.A (eval a X.env) (fun v s₁ => wpAny (model X.prog X.w) X.A (eval b X.env) (fun u s₂ => wpAny (model X.prog X.w) X.A (compareOp op v u) (EP X pins σ Q) X.xe s₂) X.xe s₁) X.xe s
def tCmp (p : Int → Int → Bool) (ta tb : TE) : TE := fun σ H Q => t2I ta tb (fun i j H2 => Q (.bl (p i j)) H2) σ H
abbrev tLt : TE → TE → TE := tCmp fun i j => decide (i < j)
abbrev tLe : TE → TE → TE := tCmp fun i j => decide (i ≤ j)
abbrev tGt : TE → TE → TE := tCmp fun i j => decide (j < i)
abbrev tGe : TE → TE → TE := tCmp fun i j => decide (j ≤ i)
abbrev tEqI : TE → TE → TE := tCmp fun i j => decide (i = j)
abbrev tNeI : TE → TE → TE := tCmp fun i j => !decide (i = j)
def tIsN (ta : TE) : TE := fun σ H Q => ta σ H fun x H1 => Q (.bl (decide (x = .non))) H1
def tNotN (ta : TE) : TE := fun σ H Q => ta σ H fun x H1 => Q (.bl (!decide (x = .non))) H1
def tB (t : TE) : TT := fun σ H Q => t σ H fun x H1 => ∃ c, x = .bl c ∧ Q c H1
theorem zapf {op : CmpOp} {t : TE} (h : PC X op a b t) (h1 : behindInMarks op b = false := by first | exact nobehind _ (by decide) (by decide) | rfl) : PE X (.Compare a [op] [b] pos) t := fun pins s σ H Q I hw => wpAny_Compare1 (h pins s σ H Q I hw) h1
theorem zamp {op : CmpOp} {t : TE} (h : PC X op a b t) (h1 : behindInMarks op b = false := by first | exact nobehind _ (by decide) (by decide) | rfl) : PT X (.Compare a [op] [b] pos) (tB t) := by
 intro pins s σ H Q I hw
 refine wpAny_isTrue_Compare1 (thn (h pins s σ H _ I hw) fun v s1 h1 => thn h1 fun u s2 h2 => thn h2 fun c s3 ⟨x, H1, I1, r1, q1⟩ => ?_) h1
 obtain ⟨d, rfl, q⟩ := q1
 cases r1
 exact wpAny_truthy_bool ⟨H1, I1, q⟩
theorem zapg {e : Expr} {t : TE} (h : PE X e t) (he : ∀ whole, isTrue e X.env whole = (do let v ← whole; standAt e.pos; holding [v] (truthy v)) := by intro _; rfl) : PT X e (tB t) := by
 intro pins s σ H Q I hw
 refine isTrue_plain (thn (h pins s σ H _ I hw) fun v s1 ⟨x, H1, I1, r1, q1⟩ => ?_) (he _)
 obtain ⟨d, rfl, q⟩ := q1
 cases r1
 exact wpAny_truthy_bool ⟨H1, I1, q⟩
variable {tA tB' : TT} {rest : List Expr}
def tAnd (t u : TT) : TT := fun σ H Q => t σ H fun c H1 => if c = true then u σ H1 Q else Q false H1
def tOr (t u : TT) : TT := fun σ H Q => t σ H fun c H1 => if c = true then Q true H1 else u σ H1 Q
def tNot (t : TT) : TT := fun σ H Q => t σ H fun c H1 => Q (!c) H1
theorem zane (ha : PT X a tA) : PW X (.BoolOp .And [a] pos) tA := by
 intro wh pins s σ H Q I h
 refine isTrue_and (thn (ha pins s σ H Q I h) fun c s1 e => ?_)
 cases c with
 | true => exact isTrue_and_nil e
 | false => exact e
theorem zaph (ha : PT X a tA) : PW X (.BoolOp .Or [a] pos) tA := by
 intro wh pins s σ H Q I h
 refine isTrue_or (thn (ha pins s σ H Q I h) fun c s1 e => ?_)
 cases c with
 | false => exact isTrue_or_nil e
 | true => exact e
theorem zapi (ha : PT X a tA) (hb : PW X (.BoolOp .And (b :: rest) pos) tB') : PW X (.BoolOp .And (a :: b :: rest) pos) (tAnd tA tB') := by
 intro wh pins s σ H Q I h
 refine isTrue_and (thn (ha pins s σ H _ I h) fun c s1 ⟨H1, I1, q1⟩ => ?_)
 cases c with
 | true => exact hb wh pins s1 σ H1 Q I1 q1
 | false => exact ⟨H1, I1, q1⟩
theorem zarh (ha : PT X a tA) (hb : PW X (.BoolOp .Or (b :: rest) pos) tB') : PW X (.BoolOp .Or (a :: b :: rest) pos) (tOr tA tB') := by
 intro wh pins s σ H Q I h
 refine isTrue_or (thn (ha pins s σ H _ I h) fun c s1 ⟨H1, I1, q1⟩ => ?_)
 cases c with
 | true => exact ⟨H1, I1, q1⟩
 | false => exact hb wh pins s1 σ H1 Q I1 q1
theorem zapj (ha : PT X a tA) : PT X (.UnaryOp .Not a pos) (tNot tA) := by
 intro pins s σ H Q I h
 exact isTrue_not (ha pins s σ H (fun c H1 => Q (!c) H1) I h)
def tAndV (ta tb : TE) : TE := fun σ H Q => ta σ H fun x H1 => ∃ c, x = .bl c ∧ if c = true then tb σ H1 Q else Q (.bl false) H1
def tOrV (ta tb : TE) : TE := fun σ H Q => ta σ H fun x H1 => ∃ c, x = .bl c ∧ if c = true then Q (.bl true) H1 else tb σ H1 Q
def tNotV (ta : TE) : TE := fun σ H Q => ta σ H fun x H1 => ∃ c, x = .bl c ∧ Q (.bl (!c)) H1
theorem zapk {op} {t : TE} (h : PE X a t) : PE X (.BoolOp op [a] pos) t := fun pins s σ H Q I hw => BoolOp_one (h pins s σ H Q I hw)
theorem zapl (ha : PE X a ta) (hb : PE X (.BoolOp .And (b :: rest) pos) tb) : PE X (.BoolOp .And (a :: b :: rest) pos) (tAndV ta tb) := by
 intro pins s σ H Q I h
 refine BoolOp_and (thn (ha pins s σ H _ I h) fun v s1 ⟨x, H1, I1, r1, q1⟩ => ?_)
 obtain ⟨c, rfl, q1⟩ := q1
 cases r1
 refine wpAny_truthy_bool ?_
 cases c with
 | true => exact hb pins s1 σ H1 Q I1 q1
 | false => exact ⟨.bl false, H1, I1, rfl, q1⟩
theorem zapm (ha : PE X a ta) : PE X (.UnaryOp .Not a pos) (tNotV ta) := by
 intro pins s σ H Q I h
 refine UnaryOp_ (thn (ha pins s σ H _ I h) fun v s1 ⟨x, H1, I1, r1, q1⟩ => ?_)
 obtain ⟨c, rfl, q1⟩ := q1
 cases r1
 exact not_of (wpAny_truthy_bool ⟨.bl (!c), H1, I1, rfl, q1⟩)
def tIf (t : TT) (ta tb : TE) : TE := fun σ H Q => t σ H fun c H1 => if c = true then ta σ H1 Q else tb σ H1 Q
theorem zalk {c : Expr} (hc : PT X c tA) (ha : PE X a ta) (hb : PE X b tb) : PE X (.IfExp c a b pos) (tIf tA ta tb) := by
 intro pins s σ H Q I h
 refine wpAny_IfExp (thn (hc pins s σ H _ I h) fun d s1 ⟨H1, I1, q1⟩ => ?_)
 cases d with
 | true => exact ha pins s1 σ H1 Q I1 q1
 | false => exact hb pins s1 σ H1 Q I1 q1
end
def SqL (K : PySem.W.Frag) (H : Hp) (a : Addr) (xs : List V) : Prop :=
 Rd H a (.lst xs) ∨
  ∃ (o : Obj) (its : Array Value) (n : Nat), K.lookup a = some o ∧ o.cls = .type "list" ∧ o.dict = none ∧ o.data = .seq its n ∧ its.size ≤ sizeLine ∧ Vals xs its.toList
def SqT (K : PySem.W.Frag) (H : Hp) (a : Addr) (xs : List V) : Prop :=
 Rd H a (.tup xs) ∨
  ∃ (o : Obj) (its : Array Value) (n : Nat), K.lookup a = some o ∧ o.cls = .type "tuple" ∧ o.data = .seq its n ∧ its.size ≤ sizeLine ∧ Vals xs its.toList
def absV : Value → Option V
 | .none => some .non
 | .bool b => some (.bl b)
 | .int i _ => some (.int i)
 | .str x _ => some (.str x)
 | .bytes b _ => some (.byt b)
 | .float b _ => some (.flt b)
 | .ref a => some (.ref a)
 | .type n => some (.ty n)
 | _ => none
theorem RelV.abs {x : V} {u : Value} (r : RelV x u) : absV u = some x := by
 cases x with
 | non => cases r; rfl
 | bl _ => cases r; rfl
 | int _ => obtain ⟨t, rfl⟩ := r; rfl
 | str _ => obtain ⟨t, rfl⟩ := r; rfl
 | byt _ => obtain ⟨t, rfl⟩ := r; rfl
 | flt _ => obtain ⟨t, rfl⟩ := r; rfl
 | ref _ => cases r; rfl
 | ty _ => cases r; rfl
theorem RelV.inj {x y : V} {u : Value} (r : RelV x u) (q : RelV y u) : x = y := Option.some.inj (r.abs.symm.trans q.abs)
theorem Vals.inj : ∀ {xs ys : List V} {us : List Value}, Vals xs us → Vals ys us → xs = ys
 | _, _, _, .nil, .nil => rfl
 | _, _, _, .cons r t, .cons r' t' => by rw [r.inj r', Vals.inj t t']
section
variable {X : Cx} {pins : List (Addr × Obj)} {σ : St} {H : Hp} {s : Shared} {a : Addr} {xs ys : List V}
theorem SqL.of {K : PySem.W.Frag} (h : H a = some (.lst xs)) : SqL K H a xs := .inl (.inl h)
theorem SqT.of {K : PySem.W.Frag} (h : H a = some (.tup xs)) : SqT K H a xs := .inl (.inl h)
theorem Inv.list (I : Inv X pins σ H s) (h : SqL X.K H a xs) : ∃ its : List Value, Vals xs its ∧ PlainL s.heap a its.toArray ∧ xs.length ≤ sizeLine := by
 rcases h with h | ⟨o, its, n, hk, hc, hd, hs, hz, r⟩
 ·obtain ⟨z, its, n, r, e⟩ := h.ok I.hok
  exact ⟨its, r, ⟨_, n, e, rfl, rfl, rfl⟩, z⟩
 ·refine ⟨its.toList, r, ⟨o, n, I.kIn a o hk, hc, hd, by simpa using hs⟩, ?_⟩
  have e := r.length
  simp only [Array.length_toList] at e
  omega
theorem Inv.tuple (I : Inv X pins σ H s) (h : SqT X.K H a xs) : ∃ its : List Value, Vals xs its ∧ IsTup s.heap a its.toArray ∧ xs.length ≤ sizeLine := by
 rcases h with h | ⟨o, its, n, hk, hc, hs, hz, r⟩
 ·obtain ⟨z, its, r, p⟩ := h.ok I.hok
  exact ⟨its, r, p, z⟩
 ·refine ⟨its.toList, r, ⟨o, I.kIn a o hk, hc, n, by simpa using hs⟩, ?_⟩
  have e := r.length
  simp only [Array.length_toList] at e
  omega
theorem Inv.list_inj (I : Inv X pins σ H s) (h : SqL X.K H a xs) (h' : SqL X.K H a ys) : xs = ys := by
 obtain ⟨its, r, ⟨o, n, e, _, _, d⟩, _⟩ := I.list h
 obtain ⟨its', r', ⟨o', n', e', _, _, d'⟩, _⟩ := I.list h'
 rw [e] at e'; cases e'
 rw [d] at d'
 injection d' with d1 _
 have : its = its' := by simpa using congrArg Array.toList d1
 subst this
 exact r.inj r'
theorem Inv.tuple_inj (I : Inv X pins σ H s) (h : SqT X.K H a xs) (h' : SqT X.K H a ys) : xs = ys := by
 obtain ⟨its, r, ⟨o, e, _, n, d⟩, _⟩ := I.tuple h
 obtain ⟨its', r', ⟨o', e', _, n', d'⟩, _⟩ := I.tuple h'
 rw [e] at e'; cases e'
 rw [d] at d'
 injection d' with d1 _
 have : its = its' := by simpa using congrArg Array.toList d1
 subst this
 exact r.inj r'
end
abbrev Cx.wish (X : Cx) (E : Value → Shared → Prop) : Cx := { X with xe := E }
abbrev Cx.nox (X : Cx) : Cx := X.wish fun _ _ => False
theorem Cx.Ok.wish {X : Cx} (ok : X.Ok) (E : Value → Shared → Prop) : (X.wish E).Ok :=
 ⟨ok.mod, ok.kind, ok.glob, ok.blt, ok.above, ok.inj, ok.has, ok.cab, ok.hd, ok.frames, ok.stk, ok.exf, ok.bs, ok.bsz, ok.noex, ok.exfs, ok.funs, ok.frf⟩
theorem Cx.Ok.unwish {X : Cx} {E : Value → Shared → Prop} (ok : (X.wish E).Ok) : X.Ok :=
 ⟨ok.mod, ok.kind, ok.glob, ok.blt, ok.above, ok.inj, ok.has, ok.cab, ok.hd, ok.frames, ok.stk, ok.exf, ok.bs, ok.bsz, ok.noex, ok.exfs, ok.funs, ok.frf⟩
section
variable {X : Cx} {pins : List (Addr × Obj)} {σ : St} {H : Hp} {s : Shared} {E : Value → Shared → Prop}
theorem Inv.wish (I : Inv X pins σ H s) (E : Value → Shared → Prop) : Inv (X.wish E) pins σ H s := ⟨I.ok.wish E, I.os, I.bare, I.base, I.loc, I.cell, I.free, I.freeC, I.pin, I.hok, I.len⟩
theorem Inv.unwish (I : Inv (X.wish E) pins σ H s) : Inv X pins σ H s := ⟨I.ok.unwish, I.os, I.bare, I.base, I.loc, I.cell, I.free, I.freeC, I.pin, I.hok, I.len⟩
theorem SP.unwish {D : Ends} {f : Flow} {s' : Shared} (h : SP (X.wish E) pins D f s') : SP X pins D f s' := by
 cases f with
 | next => obtain ⟨σ', H', I, q⟩ := h; exact ⟨σ', H', I.unwish, q⟩
 | brk => obtain ⟨σ', H', I, q⟩ := h; exact ⟨σ', H', I.unwish, q⟩
 | cont => obtain ⟨σ', H', I, q⟩ := h; exact ⟨σ', H', I.unwish, q⟩
 | ret u => obtain ⟨v, σ', H', I, r, q⟩ := h; exact ⟨v, σ', H', I.unwish, r, q⟩
theorem PSs.nox {st : List Stmt} {t : TS} (h : PSs X.nox st t) : PSs X st t := fun pins s σ H D I hw =>
 wpAny_mono (h pins s σ H D (I.wish _) hw) (fun _ _ q => q.unwish) fun _ _ z => False.elim z
end
section
variable {X : Cx} {st : Stmt} {rest : List Stmt} {t u : TS} {e : Expr} {te : TE} {pos : Pos}
def tNext : TS := fun D σ H => D.nx σ H
def tSeq (t u : TS) : TS := fun D σ H => t { D with nx := u D } σ H
theorem zanf : PSs X [] tNext := fun _ _ σ H _ I h => wpAny_execs_nil ⟨σ, H, I, h⟩
theorem zaiq (h1 : PS X st t) (h2 : PSs X rest u) : PSs X (st :: rest) (tSeq t u) := by
 intro pins s σ H D I h
 refine wpAny_execs_cons (thn (h1 pins s σ H { D with nx := u D } I h) fun f s1 q => ?_)
 cases f with
 | next =>
  obtain ⟨σ', H', I', q⟩ := q
  exact h2 pins s1 σ' H' D I' q
 | ret v => exact q
 | brk => exact q
 | cont => exact q
theorem zang (h1 : PS X st t) : PSs X [st] t := by
 intro pins s σ H D I h
 refine wpAny_execs_cons (thn (h1 pins s σ H D I h) fun f s1 q => ?_)
 cases f with
 | next => exact wpAny_execs_nil q
 | ret v => exact q
 | brk => exact q
 | cont => exact q
def tBreak : TS := fun D σ H => D.bk σ H
def tCont : TS := fun D σ H => D.ct σ H
theorem Inv.quiet {pins : List (Addr × Obj)} {σ : St} {H : Hp} {s : Shared} (I : Inv X pins σ H s) : interactive X.env = false := by simp [interactive, I.ok.kind]
def tDrop (te : TE) : TS := fun D σ H => te σ H fun _ H1 => D.nx σ H1
theorem zanh (he : PE X e te) (hs : swapsWith e none pos.line X.env = pure false := by rfl) : PS X (.Expr e pos) (tDrop te) := by
 intro pins s σ H D I h
 exact wpAny_Expr_any (thn (he pins s σ H _ I h) fun v s1 ⟨x, H1, I1, r1, q1⟩ => ⟨σ, H1, I1, q1⟩) I.quiet hs
def tRet (te : TE) : TS := fun D σ H => te σ H D.rt
theorem zapn (he : PE X e te) : PS X (.Return (some e) pos) (tRet te) := by
 intro pins s σ H D I h
 exact wpAny_Return_some (thn (he pins s σ H _ I h) fun v s1 ⟨x, H1, I1, r1, q1⟩ => ⟨x, σ, H1, I1, r1, q1⟩)
def tRetN : TS := fun D _ H => D.rt .non H
def tIfS (c : TT) (t u : TS) : TS := fun D σ H => c σ H fun b H1 => if b = true then t D σ H1 else u D σ H1
theorem zari {c : Expr} {a b : List Stmt} {tc : TT} (hc : PT X c tc) (ha : PSs X a t) (hb : PSs X b u) : PS X (.If c a b pos) (tIfS tc t u) := by
 intro pins s σ H D I h
 refine wpAny_If (thn (hc pins s σ H _ I h) fun d s1 ⟨H1, I1, q1⟩ => ?_)
 cases d with
 | true => exact ha pins s1 σ H1 D I1 q1
 | false => exact hb pins s1 σ H1 D I1 q1
def tNever : TS := fun _ _ _ => False
end
abbrev TG := V → St → Hp → (St → Hp → Prop) → Prop
abbrev TGs := List V → St → Hp → (St → Hp → Prop) → Prop
def PG (X : Cx) (target : Expr) (t : TG) : Prop :=
 ∀ (pins : List (Addr × Obj)) (s : Shared) (σ : St) (H : Hp) (v : V) (u : Value) (Q : St → Hp → Prop), Inv X pins σ H s → RelV v u → t v σ H Q →
  wpAny (model X.prog X.w) X.A (assign target X.env u) (fun _ s' => ∃ σ' H', Inv X pins σ' H' s' ∧ Q σ' H') X.xe s
def PGs (X : Cx) (ts : List Expr) (t : TGs) : Prop :=
 ∀ (pins : List (Addr × Obj)) (s : Shared) (σ : St) (H : Hp) (vs : List V) (us : List Value) (Q : St → Hp → Prop), Inv X pins σ H s → Vals vs us → t vs σ H Q →
  wpAny (model X.prog X.w) X.A (assignInOrder ((assignEach ts X.env).map (·.2)) us) (fun _ s' => ∃ σ' H', Inv X pins σ' H' s' ∧ Q σ' H') X.xe s
abbrev TSet := V → V → V → Hp → (Hp → Prop) → Prop
def PSet (X : Cx) (t : TSet) : Prop :=
 ∀ (pins : List (Addr × Obj)) (s : Shared) (σ : St) (H : Hp) (o i v : V) (ov iv u : Value) (Q : Hp → Prop), Inv X pins σ H s → RelV o ov → RelV i iv → RelV v u → t o i v H Q →
  wpAny (model X.prog X.w) X.A (setItem ov iv u) (fun _ s' => ∃ H', Inv X pins σ H' s' ∧ Q H') X.xe s
abbrev TIp := V → V → Hp → VK → Prop
def PIp (X : Cx) (op : Operator) (t : TIp) : Prop :=
 ∀ (pins : List (Addr × Obj)) (s : Shared) (σ : St) (H : Hp) (x y : V) (v u : Value) (Q : VK), Inv X pins σ H s → RelV x v → RelV y u → t x y H Q →
  wpAny (model X.prog X.w) X.A (inplaceOp op v u) (EP X pins σ Q) X.xe s
section
variable {X : Cx} {pos : Pos}
def gName (i : Nat) : TG := fun v σ H Q => Q (σ.set i (some v)) H
theorem zani {i : Nat} {x : Str} (hN : X.N.Nodup) (hi : X.N[i]? = some x) (hx : Loc X.env.scope x) (hf : X.fn x = true ∨ X.env.scope.names.lookup x = some .local := by first | exact .inl rfl | exact .inr rfl | assumption) : PG X (.Name x pos) (gName i) := by
 intro pins s σ H v u Q I r h
 exact wpAny_assign_Name (zae7 I hN hi hx r (fun s' I' => ⟨_, H, I', h⟩) hf)
def gNil : TGs := fun vs σ H Q => vs = [] ∧ Q σ H
def gCons (t : TG) (u : TGs) : TGs := fun vs σ H Q => ∃ v r, vs = v :: r ∧ t v σ H fun σ' H' => u r σ' H' Q
theorem zanj : PGs X [] gNil := by
 intro pins s σ H vs us Q I r h
 obtain ⟨e, h⟩ := h
 subst e
 cases r
 exact assignInOrder_nil ⟨σ, H, I, h⟩
theorem zall {e : Expr} {es : List Expr} {t : TG} {u : TGs} (h1 : PG X e t) (h2 : PGs X es u)
  (hs : (assignEach (e :: es) X.env).map (·.2) = assign e X.env :: (assignEach es X.env).map (·.2) := by rfl) : PGs X (e :: es) (gCons t u) := by
 intro pins s σ H vs us Q I r h
 obtain ⟨v, vr, e1, h⟩ := h
 subst e1
 cases r with
 | cons r rr =>
  rw [hs]
  refine assignInOrder_cons (thn (h1 pins s σ H _ _ _ I r h) fun _ s1 ⟨σ1, H1, I1, q1⟩ => ?_)
  exact h2 pins s1 σ1 H1 _ _ Q I1 rr q1
def gTup (K : PySem.W.Frag) (n : Nat) (t : TGs) : TG := fun v σ H Q => ∃ a xs, v = .ref a ∧ SqT K H a xs ∧ xs.length = n ∧ t xs σ H Q
theorem zamq {es : List Expr} {k : Nat} {t : TGs} {n : Nat} (hc : X.calm = true) (h : PGs X es t)
  (hn : (assignEach es X.env).length = n := by rfl) (hst : (assignEach es X.env).findIdx? (·.1) = none := by rfl) : PG X (.Tuple es k pos) (gTup X.K n t) := by
 intro pins s σ H v u Q I r hw
 obtain ⟨a, xs, e1, hq, hl, hw⟩ := hw
 subst e1
 cases r
 obtain ⟨its, rv, ht, hz⟩ := I.tuple hq
 refine assign_Tuple_tuple (I.ok.hd hc) ht (by simp [hn, ← hl, rv.length]) hst fun h' hx => ?_
 have I1 : Inv X pins σ H { s with heap := h' } := I.kept (t' := s.toks) fun b o e => hx b o (Nat.ne_of_lt (Heap.lt_size e)) e
 exact h pins _ σ H xs _ Q I1 (by simpa using rv) hw
def gSub (to ti : TE) (t : TSet) : TG := fun v σ H Q => to σ H fun o H1 => ti σ H1 fun i H2 => t o i v H2 fun H3 => Q σ H3
theorem zapo {o i : Expr} {to ti : TE} {t : TSet} (ho : PE X o to) (hi : PE X i ti) (hs : PSet X t)
  (ha : ∀ v, assign (.Subscript o i pos) X.env v = (do
   let ov ← holding [v] (eval o X.env)
   let iv ← holding [v, ov] (eval i X.env)
   standAt pos
   holding [v, ov, iv] (setItem ov iv v)
   release [v, ov, iv] []) := by intro _; rfl) : PG X (.Subscript o i pos) (gSub to ti t) := by
 intro pins s σ H v u Q I r h
 rw [ha]
 refine wpAny_bind (wpAny_holding (thn (ho pins s σ H _ I h) fun ov s1 ⟨x, H1, I1, r1, q1⟩ => ?_))
 refine wpAny_bind (wpAny_holding (thn (hi pins s1 σ H1 _ I1 q1) fun iv s2 ⟨y, H2, I2, r2, q2⟩ => ?_))
 refine wpAny_bind (wpAny_standAt (wpAny_bind (wpAny_holding (thn (hs pins s2 σ H2 x y v ov iv u _ I2 r1 r2 r q2) fun _ s3 ⟨H3, I3, q3⟩ => ?_))))
 exact wpAny_release ⟨σ, H3, I3, q3⟩
def tAsg (te : TE) (g : TG) : TS := fun D σ H => te σ H fun x H1 => g x σ H1 D.nx
theorem zapp {tg e : Expr} {te : TE} {g : TG} (he : PE X e te) (hg : PG X tg g) (hs : swapsWithSole [tg] e pos.line X.env = pure false := by rfl) (hw : swappedStores [tg] e X.env = pure none := by rfl)
  (h1 : (assignEach [tg] X.env).map (·.2) = [assign tg X.env] := by rfl) : PS X (.Assign [tg] e pos) (tAsg te g) := by
 intro pins s σ H D I h
 refine wpAny_Assign_stores (thn (he pins s σ H _ I h) fun v s1 ⟨x, H1, I1, r1, q1⟩ => ?_) hs hw
 rw [h1]
 exact thn (hg pins s1 σ H1 x v _ I1 r1 q1) fun _ s2 q => q
theorem zapq {i : Nat} {x : Str} {e : Expr} {te : TE} {pos' : Pos} (hN : X.N.Nodup) (hi : X.N[i]? = some x) (hx : Loc X.env.scope x) (he : PE X e te) (hs : swapsWith e (some (.Name x pos')) pos.line X.env = pure false := by rfl) (hf : X.fn x = true ∨ X.env.scope.names.lookup x = some .local := by first | exact .inl rfl | exact .inr rfl | assumption) :
  PS X (.Assign [.Name x pos'] e pos) (tAsg te (gName i)) := by
 intro pins s σ H D I h
 refine wpAny_Assign_Name (thn (he pins s σ H _ I h) fun v s1 ⟨y, H1, I1, r1, q1⟩ => ?_) hs
 exact zae7 I1 hN hi hx r1 (fun s2 I2 => ⟨_, H1, I2, q1⟩) hf
def tPar (i j : Nat) (ta : TA) : TS := fun D σ H => ta σ H fun vs H1 => ∃ v w, vs = [v, w] ∧ D.nx ((σ.set i (some v)).set j (some w)) H1
def tAug (i : Nat) (te : TE) (ti : TIp) : TS := fun D σ H => ∃ x, σ[i]? = some (some x) ∧ te σ H fun y H1 => ti x y H1 fun z H2 => D.nx (σ.set i (some z)) H2
theorem zapr {i : Nat} {x : Str} {e : Expr} {te : TE} {op : Operator} {ti : TIp} {pos' : Pos} (hN : X.N.Nodup) (hi : X.N[i]? = some x) (hx : Loc X.env.scope x) (he : PE X e te) (ho : PIp X op ti) (hf : X.fn x = true ∨ X.env.scope.names.lookup x = some .local := by first | exact .inl rfl | exact .inr rfl | assumption) :
  PS X (.AugAssign (.Name x pos') op e pos) (tAug i te ti) := by
 intro pins s σ H D I h
 obtain ⟨v, e1, h⟩ := h
 obtain ⟨m, hn, hl⟩ := I.loc
 have vis : Vis X.env.scope x := by rcases hx with k | k; exact .inl k; exact .inr (.inl k)
 obtain ⟨u, r, l⟩ := hl i x v hi e1 vis
 refine wpAny_AugAssign_Name ?_
 have go : wpAny (model X.prog X.w) X.A (eval e X.env) (fun w s₂ => wpAny (model X.prog X.w) X.A (inplaceOp op u w) (fun r s₃ => wpAny (model X.prog X.w) X.A (storeName X.env x r) (fun _ => SP X pins D .next) X.xe s₃) X.xe s₂) X.xe s := by
  refine thn (he pins s σ H _ I h) fun w s1 ⟨y, H1, I1, r1, q1⟩ => ?_
  refine thn (ho pins s1 σ H1 v y u w _ I1 r r1 q1) fun z s2 ⟨zv, H2, I2, r2, q2⟩ => ?_
  exact zae7 I2 hN hi hx r2 (fun s3 I3 => ⟨_, H2, I3, q2⟩) hf
 rcases l with ⟨hk, hm⟩ | ⟨hk, c, hc, hcell⟩
 ·exact wpAny_loadName_local I.ok.kind hk hn hm go
 ·rcases hk with hk | hk
  ·exact wpAny_loadName_cell I.ok.kind hk hc hcell go
  ·rcases hx with k | k
   ·have : X.env.scope.names.lookup x = some .free := hk
    rw [k] at this; cases this
   ·have : X.env.scope.names.lookup x = some .free := hk
    rw [k] at this; cases this
def tAugS (to ti te : TE) (tget : V → V → Hp → VK → Prop) (tip : TIp) (tset : TSet) : TS := fun D σ H => to σ H fun o H1 => ti σ H1 fun i H2 => tget o i H2 fun x H3 => te σ H3 fun y H4 => tip x y H4 fun z H5 => tset o i z H5 fun H6 => D.nx σ H6
def PGet (X : Cx) (t : V → V → Hp → VK → Prop) : Prop :=
 ∀ (pins : List (Addr × Obj)) (s : Shared) (σ : St) (H : Hp) (o i : V) (ov iv : Value) (Q : VK), Inv X pins σ H s → RelV o ov → RelV i iv → t o i H Q →
  wpAny (model X.prog X.w) X.A (getItem ov iv) (EP X pins σ Q) X.xe s
def ipI (f : Int → Int → Int) : TIp := fun x y H Q => ∃ i j, x = .int i ∧ y = .int j ∧ Q (.int (f i j)) H
theorem zaps : PIp X .Add (ipI fun i j => i + j) := by
 intro pins s σ H x y v u Q I r1 r2 h
 obtain ⟨i, j, e1, e2, q⟩ := h
 subst e1; subst e2
 obtain ⟨t, rfl⟩ := r1
 obtain ⟨t', rfl⟩ := r2
 exact iadd_int ⟨.int _, H, I.tok _, ⟨_, rfl⟩, q⟩
def tWhile (c : TT) (tb : TS) : TS := fun D σ H => ∃ W : Nat → St → Hp → Prop, (∃ m, W m σ H) ∧ ∀ m σ H, W m σ H →
 c σ H fun b H1 => if b = true then ∃ N : St → Hp → Prop, (∀ σ' H', N σ' H' → ∃ m', m' < m ∧ W m' σ' H') ∧ tb { D with nx := N, ct := N, bk := D.nx } σ H1 else D.nx σ H1
end
structure It where
 go : Nat → Hp → Prop
 yld : Nat → Hp → V → Hp → Prop
 stop : Nat → Hp → Prop
def FpOk (X : Cx) (pins : List (Addr × Obj)) (H : Hp) (b : Addr) : Prop :=
 H b = none ∧ b ≠ X.env.locals ∧ b ∉ X.fs ∧ (b ∈ X.ex ∨ X.s₀.heap.objs.size ≤ b) ∧ (∀ x c, X.env.cells.lookup x = some c → c ≠ b) ∧ ∀ p ∈ X.pn ++ pins, p.1 ≠ b
theorem Inv.fpOk {X : Cx} {pins : List (Addr × Obj)} {σ : St} {H H' : Hp} {s : Shared} {b : Addr} (I : Inv X pins σ H s) (hb : s.heap.objs.size ≤ b) (hn : H' b = none) : FpOk X pins H' b := by
 refine ⟨hn, Nat.ne_of_gt (Nat.lt_of_lt_of_le I.lt hb), I.nofs hb, .inr (Nat.le_trans I.sz hb), fun x c e z => ?_, fun p hp z => ?_⟩
 ·obtain ⟨v, q⟩ := I.cell x c e
  exact absurd (Nat.lt_of_lt_of_le q.lt (by rw [z]; exact hb)) (Nat.lt_irrefl _)
 ·exact absurd (Nat.lt_of_lt_of_le (Heap.lt_size (I.pin p hp).1) (by rw [z]; exact hb)) (Nat.lt_irrefl _)
structure Turn (P : Program) (w : World) (K : PySem.W.Frag) (tg : Expr) (J : It) (fp : List Addr) (it : Addr) (tn : Nat → Heap → Prop) : Prop where
 mem : it ∈ fp
 obj : ∀ i h, tn i h → ∀ b ∈ fp, ∃ o, h.get? b = some o ∧ ∀ v, o.data ≠ .cell v
 keep : ∀ i h h', tn i h → (∀ b ∈ fp, ∀ o, h.get? b = some o → h'.get? b = some o) → tn i h'
 item : ∀ (X : Cx), X.prog = P → X.w = w → X.K = K → X.calm = true → ∀ (i : Nat) (pins : List (Addr × Obj)) (s : Shared) (σ : St) (H : Hp) (E : Value → Shared → Prop), Inv X pins σ H s → (∀ b ∈ fp, FpOk X pins H b) → tn i s.heap → J.go i H →
  wpAny (model P w) X.A (pyNext (.ref it)) (fun r s1 => ∃ u, r = some u ∧
   wpAny (model P w) X.A (letOwnedTupleGo tg (.ref it) u) (fun _ s2 => ∃ x H', Inv X pins σ H' s2 ∧ RelV x u ∧ J.yld i H x H' ∧ tn (i + 1) s2.heap ∧ ∀ b ∈ fp, H' b = none) E s1) E s
 done : ∀ (X : Cx), X.prog = P → X.w = w → X.K = K → X.calm = true → ∀ (i : Nat) (pins : List (Addr × Obj)) (s : Shared) (σ : St) (H : Hp) (E : Value → Shared → Prop), Inv X pins σ H s → (∀ b ∈ fp, FpOk X pins H b) → tn i s.heap → J.stop i H →
  wpAny (model P w) X.A (pyNext (.ref it)) (fun r s1 => r = none ∧ Inv X pins σ H s1) E s
 self : ∀ (A : Around) (i : Nat) (s : Shared) (Q : Value → Shared → Prop) (E : Value → Shared → Prop), tn i s.heap → Q (.ref it) s → wpAny (model P w) A (pyIter (.ref it)) Q E s
abbrev TI := St → Hp → (It → Hp → Prop) → Prop
def PIE (X : Cx) (pins : List (Addr × Obj)) (σ : St) (tg : Expr) (R : It → Hp → Prop) (itv : Value) (s2 : Shared) : Prop :=
 ∃ (it : Addr) (fp : List Addr) (tn : Nat → Heap → Prop) (J : It) (H' : Hp), itv = .ref it ∧ Inv X pins σ H' s2 ∧ Turn X.prog X.w X.K tg J fp it tn ∧ tn 0 s2.heap ∧ (∀ b ∈ fp, FpOk X pins H' b) ∧ R J H'
def PI (X : Cx) (tg iter : Expr) (wi : TI) : Prop :=
 ∀ (pins : List (Addr × Obj)) (s : Shared) (σ : St) (H : Hp) (R : It → Hp → Prop), Inv X pins σ H s → wi σ H R →
  wpAny (model X.prog X.w) X.A (eval iter X.env) (fun v s1 => wpAny (model X.prog X.w) X.A (pyIter v) (PIE X pins σ tg R) X.xe s1) X.xe s
theorem zank {M : Model} {A : Around} {E : Value → Shared → Prop} {s : Shared} {tg : Expr} {it : Addr} {u : Value} {o : Obj} {n : String} {vs : Array Value} {Q : Unit → Shared → Prop} (ho : s.heap.get? it = some o) (hc : o.cls = .type n) (hd : o.data = .fields vs)
  (hn : ["enumerate", "zip", "dict_itemiterator", "dict_reverseitemiterator", "odict_iterator", "itertools.zip_longest", "itertools.pairwise"].contains n = false) (hQ : Q () s) : wpAny M A (letOwnedTupleGo tg (.ref it) u) Q E s := by
 unfold letOwnedTupleGo
 cases tg <;> first
  | exact wpAny_pure hQ
  | (cases u <;> first
    | exact wpAny_pure hQ
    | (refine wpAny_bind (wpAny_load ho ?_)
       rw [hc, hd]
       show wpAny M A (if (["enumerate", "zip", "dict_itemiterator", "dict_reverseitemiterator", "odict_iterator", "itertools.zip_longest", "itertools.pairwise"].contains n && vs[0]? == some (rawInt _)) = true then _ else _) Q E s
       rw [if_neg (by intro h; rw [hn, Bool.false_and] at h; cases h)]
       exact wpAny_pure hQ))
def Itl (K : PySem.W.Frag) (a : Addr) : It :=
 ⟨fun i H => ∃ xs x, SqL K H a xs ∧ xs[i]? = some x, fun i H x H' => H' = H ∧ ∀ xs, SqL K H a xs → xs[i]? = some x, fun i H => ∃ xs, SqL K H a xs ∧ xs.length ≤ i⟩
def Itt (K : PySem.W.Frag) (a : Addr) : It :=
 ⟨fun i H => ∃ xs x, SqT K H a xs ∧ xs[i]? = some x, fun i H x H' => H' = H ∧ ∀ xs, SqT K H a xs → xs[i]? = some x, fun i H => ∃ xs, SqT K H a xs ∧ xs.length ≤ i⟩
def Itr (lo : Int) (n : Nat) : It := ⟨fun i _ => i < n, fun i H x H' => H' = H ∧ x = .int (lo + i), fun i _ => n ≤ i⟩
theorem zajw {P : Program} {w : World} {K : PySem.W.Frag} {tg : Expr} (a it : Addr) : Turn P w K tg (Itl K a) [it] it (fun i h => h.IsListIter it a i) where
 mem := by simp
 obj := fun i h st b hb => by
  have e : b = it := by simpa using hb
  subst e
  obtain ⟨o, e, c, d⟩ := st
  exact ⟨o, e, fun v z => by rw [d] at z; cases z⟩
 keep := fun i h h' st k => st.at fun o e => k it (by simp) o e
 item := by
  intro X hP hw hK hc i pins s σ H E I hf st hg
  subst hP hw hK
  obtain ⟨xs, x, hq, hx⟩ := hg
  obtain ⟨its, rv, p, hz⟩ := I.list hq
  obtain ⟨u, hu, ru⟩ := rv.get hx
  obtain ⟨f0, f1, f2, f3, f4, f5⟩ := hf it (by simp)
  refine wpAny_pyNext_list_item st p.isList (x := u) (by simpa using hu) fun h' st' sb => ?_
  have I1 : Inv X pins σ H { s with heap := h' } := I.turned (t' := s.toks) (fun b o hb e => (sb.2 b hb).trans e) f0 f1 f3 f4 f5
  obtain ⟨o, e, c, d⟩ := id st'
  exact ⟨u, rfl, zank (s := { s with heap := h' }) e c d (by decide) ⟨x, H, I1, ru, ⟨rfl, fun ys hy => by rw [I.list_inj hy hq]; exact hx⟩, st', fun b hb => (hf b hb).1⟩⟩
 done := by
  intro X hP hw hK hc i pins s σ H E I hf st hg
  subst hP hw hK
  obtain ⟨xs, hq, hx⟩ := hg
  obtain ⟨its, rv, p, hz⟩ := I.list hq
  obtain ⟨f0, f1, f2, f3, f4, f5⟩ := hf it (by simp)
  have hl := rv.length
  exact wpAny_pyNext_list_end (I.ok.hd hc) st p.isList (by simp; omega) fun h' eb => ⟨rfl, I.turned (t' := s.toks) (fun b o hb e => eb b o hb e) f0 f1 f3 f4 f5⟩
 self := fun _ _ _ _ _ st h => wpAny_pyIter_listiter st h
theorem zajc {P : Program} {w : World} {K : PySem.W.Frag} {tg : Expr} (a it : Addr) : Turn P w K tg (Itt K a) [it] it (fun i h => h.IsTupleIter it a i) where
 mem := by simp
 obj := fun i h st b hb => by
  have e : b = it := by simpa using hb
  subst e
  obtain ⟨o, e, c, d⟩ := st
  exact ⟨o, e, fun v z => by rw [d] at z; cases z⟩
 keep := fun i h h' st k => st.at fun o e => k it (by simp) o e
 item := by
  intro X hP hw hK hc i pins s σ H E I hf st hg
  subst hP hw hK
  obtain ⟨xs, x, hq, hx⟩ := hg
  obtain ⟨its, rv, p, hz⟩ := I.tuple hq
  obtain ⟨u, hu, ru⟩ := rv.get hx
  obtain ⟨f0, f1, f2, f3, f4, f5⟩ := hf it (by simp)
  refine wpAny_pyNext_tuple_item st (show s.heap.IsTuple a its.toArray from p) (x := u) (by simpa using hu) fun h' st' sb => ?_
  have I1 : Inv X pins σ H { s with heap := h' } := I.turned (t' := s.toks) (fun b o hb e => (sb.2 b hb).trans e) f0 f1 f3 f4 f5
  obtain ⟨o, e, c, d⟩ := id st'
  exact ⟨u, rfl, zank (s := { s with heap := h' }) e c d (by decide) ⟨x, H, I1, ru, ⟨rfl, fun ys hy => by rw [I.tuple_inj hy hq]; exact hx⟩, st', fun b hb => (hf b hb).1⟩⟩
 done := by
  intro X hP hw hK hc i pins s σ H E I hf st hg
  subst hP hw hK
  obtain ⟨xs, hq, hx⟩ := hg
  obtain ⟨its, rv, p, hz⟩ := I.tuple hq
  obtain ⟨f0, f1, f2, f3, f4, f5⟩ := hf it (by simp)
  have hl := rv.length
  exact wpAny_pyNext_tuple_end (I.ok.hd hc) st (show s.heap.IsTuple a its.toArray from p) (by simp; omega) fun h' eb => ⟨rfl, I.turned (t' := s.toks) (fun b o hb e => eb b o hb e) f0 f1 f3 f4 f5⟩
 self := fun _ _ _ _ _ st h => wpAny_pyIter_tupleiter st h
theorem zajd {P : Program} {w : World} {K : PySem.W.Frag} {tg : Expr} (it : Addr) (lo : Int) (n : Nat) : Turn P w K tg (Itr lo n) [it] it (fun i h => IsRangeIter h it (lo + (i : Nat) * 1) ((n : Int) - (i : Nat)) 1) where
 mem := by simp
 obj := fun i h st b hb => by
  have e : b = it := by simpa using hb
  subst e
  exact ⟨_, st, fun v z => by
   have z' : Data.fields _ = Data.cell v := z
   cases z'⟩
 keep := fun i h h' st k => k it (by simp) _ st
 item := by
  intro X hP hw hK hc i pins s σ H E I hf st hg
  subst hP hw hK
  obtain ⟨f0, f1, f2, f3, f4, f5⟩ := hf it (by simp)
  have W := Walks.range (prog := X.prog) (w := X.w) (I.ok.hd hc) it lo 1 n
  refine W.item i s _ _ hg st fun v h' tk hv st' kk => ?_
  obtain ⟨t, rfl⟩ := hv
  have I1 : Inv X pins σ H { s with heap := h', toks := tk } := I.turned (fun b o hb e => kk b o (by simpa using hb) e) f0 f1 f3 f4 f5
  refine ⟨_, rfl, zank (s := { s with heap := h', toks := tk }) (n := "range_iterator") st' rfl rfl (by decide) ⟨.int (lo + i), H, I1, ⟨t, ?_⟩, ⟨rfl, rfl⟩, st', fun b hb => (hf b hb).1⟩⟩
  rw [Int.mul_one]
 done := by
  intro X hP hw hK hc i pins s σ H E I hf st hg
  subst hP hw hK
  obtain ⟨f0, f1, f2, f3, f4, f5⟩ := hf it (by simp)
  exact wpAny_pyNext_range_end (I.ok.hd hc) st (by have : n ≤ i := hg; omega) fun h' eb => ⟨rfl, I.turned (t' := s.toks) (fun b o hb e => eb b o hb e) f0 f1 f3 f4 f5⟩
 self := fun _ _ _ _ _ st h => wpAny_pyIter_rangeiter st h
section
variable {X : Cx} {tg : Expr}
def iList (K : PySem.W.Frag) (tl : TE) : TI := fun σ H R => tl σ H fun x H1 => ∃ a, x = .ref a ∧ (∃ xs, SqL K H1 a xs) ∧ R (Itl K a) H1
def iTup (K : PySem.W.Frag) (tl : TE) : TI := fun σ H R => tl σ H fun x H1 => ∃ a, x = .ref a ∧ (∃ xs, SqT K H1 a xs) ∧ R (Itt K a) H1
theorem zajx {l : Expr} {tl : TE} (hl : PE X l tl) : PI X tg l (iList X.K tl) := by
 intro pins s σ H R I h
 refine thn (hl pins s σ H _ I h) fun v s1 ⟨x, H1, I1, r1, q1⟩ => ?_
 obtain ⟨a, e, ⟨xs, hq⟩, q⟩ := q1
 subst e
 cases r1
 obtain ⟨its, rv, p, hz⟩ := I1.list hq
 refine wpAny_pyIter_list p.isList ?_
 refine ⟨s1.heap.objs.size, [s1.heap.objs.size], _, _, H1, rfl, I1.kept (t' := s1.toks) fun b o e => Heap.get?_push_of_some _ e, zajw a _, ⟨_, Heap.get?_push_size _ rfl, rfl, rfl⟩, fun b hb => ?_, q⟩
 have e : b = s1.heap.objs.size := by simpa using hb
 subst e
 exact I1.fpOk (Nat.le_refl _) (I1.hok.fresh (Nat.le_refl _))
theorem zamr {l : Expr} {tl : TE} (hl : PE X l tl) : PI X tg l (iTup X.K tl) := by
 intro pins s σ H R I h
 refine thn (hl pins s σ H _ I h) fun v s1 ⟨x, H1, I1, r1, q1⟩ => ?_
 obtain ⟨a, e, ⟨xs, hq⟩, q⟩ := q1
 subst e
 cases r1
 obtain ⟨its, rv, p, hz⟩ := I1.tuple hq
 refine wpAny_pyIter_tuple (show s1.heap.IsTuple a its.toArray from p) ?_
 refine ⟨s1.heap.objs.size, [s1.heap.objs.size], _, _, H1, rfl, I1.kept (t' := s1.toks) fun b o e => Heap.get?_push_of_some _ e, zajc a _, ⟨_, Heap.get?_push_size _ rfl, rfl, rfl⟩, fun b hb => ?_, q⟩
 have e : b = s1.heap.objs.size := by simpa using hb
 subst e
 exact I1.fpOk (Nat.le_refl _) (I1.hok.fresh (Nat.le_refl _))
theorem zalm {pins : List (Addr × Obj)} {σ : St} {H : Hp} {s : Shared} {R : It → Hp → Prop} {E : Value → Shared → Prop} {lo hi : Int} {t u v : Tok} {tk : Nat} (I : Inv X pins σ H s) (h1 : -(2 ^ 62) ≤ lo) (h2 : lo < 2 ^ 62) (h3 : -(2 ^ 62) ≤ hi) (h4 : hi < 2 ^ 62)
  (q : R (Itr lo (hi - lo).toNat) H) : wpAny (model X.prog X.w) X.A (pyIter (.ref s.heap.objs.size)) (PIE X pins σ tg R) E { s with heap := s.heap.push { cls := .type "range", data := .fields #[.int lo t, .int hi u, .int 1 v] }, toks := tk } := by
 refine wpAny_pyIter_range (IsRange.new ..) (small_one h1 h2 h3 h4) ?_
 have I1 : Inv X pins σ H { s with heap := s.heap.push { cls := .type "range", data := .fields #[.int lo t, .int hi u, .int 1 v] }, toks := tk } := I.kept fun b o e => Heap.get?_push_of_some _ e
 refine ⟨(s.heap.push { cls := .type "range", data := .fields #[.int lo t, .int hi u, .int 1 v] }).objs.size, [(s.heap.push { cls := .type "range", data := .fields #[.int lo t, .int hi u, .int 1 v] }).objs.size], _, _, H, rfl,
  I1.kept (t' := tk) fun b o e => Heap.get?_push_of_some _ e, zajd _ lo (hi - lo).toNat, ?_, fun b hb => ?_, q⟩
 ·have e1 : lo + ((0 : Nat) : Int) * 1 = lo := by simp
  have e2 : (((hi - lo).toNat : Nat) : Int) - ((0 : Nat) : Int) = Builtin.Range.rangeSize lo hi 1 := by rw [rangeSize_one]; split <;> omega
  show IsRangeIter _ _ (lo + ((0 : Nat) : Int) * 1) ((((hi - lo).toNat : Nat) : Int) - ((0 : Nat) : Int)) 1
  rw [e1, e2]
  exact Heap.get?_push_size _ rfl
 ·have e : b = (s.heap.push { cls := .type "range", data := .fields #[.int lo t, .int hi u, .int 1 v] }).objs.size := by simpa using hb
  subst e
  exact I1.fpOk (Nat.le_refl _) (I1.hok.fresh (Nat.le_refl _))
def iRng1 (ta : TA) : TI := fun σ H R => ta σ H fun vs H1 => ∃ j : Int, vs = [.int j] ∧ -(2 ^ 62) ≤ j ∧ j < 2 ^ 62 ∧ R (Itr 0 j.toNat) H1
def iRng2 (ta : TA) : TI := fun σ H R => ta σ H fun vs H1 => ∃ i j : Int, vs = [.int i, .int j] ∧ (-(2 ^ 62) ≤ i ∧ i < 2 ^ 62 ∧ -(2 ^ 62) ≤ j ∧ j < 2 ^ 62) ∧ R (Itr i (j - i).toNat) H1
theorem zajy {a : Expr} {ta : TA} {p pos : Pos} (hg : Gl X "range") (hm : X.mg "range" = none) (ha : PA X [a] ta) (hs : starEach [a] X.env = [(false, eval a X.env)] := by rfl) : PI X tg (.Call (.Name "range" p) [a] [] pos) (iRng1 ta) := by
 intro pins s σ H R I h
 refine Call_ (zaf3 I hg hm boot_range (PyProof.Rows.callWith_type1 (thn (ha pos pins s σ H _ I h) fun us s1 ⟨vs, H1, I1, r1, q1⟩ => ?_) hs rfl))
 obtain ⟨j, e, q1, q2, q⟩ := q1
 subst e
 cases r1 with
 | cons r rr =>
  cases rr
  obtain ⟨t, rfl⟩ := r
  exact call_range_1 (zalm I1 (by omega) (by omega) q1 q2 (by simpa using q))
def tFor (wi : TI) (g : TG) (tb : TS) : TS := fun D σ H => wi σ H fun J H1 => ∃ W : Nat → Nat → St → Hp → Prop, (∃ m, W 0 m σ H1) ∧ ∀ i m σ H, W i m σ H →
 (J.stop i H ∧ D.nx σ H) ∨ (J.go i H ∧ ∃ N : St → Hp → Prop, (∀ σ' H', N σ' H' → ∃ m', m' < m ∧ W (i + 1) m' σ' H') ∧ ∀ x H', J.yld i H x H' → g x σ H' fun σ2 H2 => tb { D with nx := N, ct := N, bk := D.nx } σ2 H2)
def pinsAt (fp : List Addr) (h : Heap) : List (Addr × Obj) := fp.filterMap fun b => (h.get? b).map fun o => (b, o)
theorem zadu {fp : List Addr} {h : Heap} {b : Addr} {o : Obj} (hb : b ∈ fp) (e : h.get? b = some o) : (b, o) ∈ pinsAt fp h := List.mem_filterMap.mpr ⟨b, hb, by rw [e]; rfl⟩
theorem zahe {fp : List Addr} {h : Heap} {p : Addr × Obj} (hp : p ∈ pinsAt fp h) : p.1 ∈ fp ∧ h.get? p.1 = some p.2 := by
 obtain ⟨b, hb, e⟩ := List.mem_filterMap.mp hp
 cases q : h.get? b with
 | none => rw [q] at e; cases e
 | some o =>
  rw [q] at e
  have e' : (b, o) = p := Option.some.inj e
  subst e'
  exact ⟨hb, q⟩
theorem Inv.pinned {pins : List (Addr × Obj)} {σ : St} {H : Hp} {s : Shared} {fp : List Addr} (I : Inv X pins σ H s) (hf : ∀ b ∈ fp, FpOk X pins H b) (ho : ∀ b ∈ fp, ∃ o, s.heap.get? b = some o ∧ ∀ v, o.data ≠ .cell v) : Inv X (pins ++ pinsAt fp s.heap) σ H s :=
 I.pins_of fun p hp => (List.mem_append.mp hp).elim (fun z => I.pin p (List.mem_append_right _ z)) fun z => by
  obtain ⟨hb, e⟩ := zahe z
  obtain ⟨f0, f1, f2, _⟩ := hf p.1 hb
  obtain ⟨o, e', d⟩ := ho p.1 hb
  rw [e] at e'; cases e'
  exact ⟨e, f0, f1, f2, d⟩
theorem Inv.unpinned {pins pl : List (Addr × Obj)} {σ : St} {H : Hp} {s : Shared} (I : Inv X (pins ++ pl) σ H s) : Inv X pins σ H s := I.pins_of fun p hp => I.pin p (List.mem_append_right _ (List.mem_append_left _ hp))
theorem zapt {iter : Expr} {body : List Stmt} {wi : TI} {g : TG} {tb : TS} {pos : Pos} (hp : PassesOwn (model X.prog X.w) X.A X.env X.xe) (hc : X.calm = true) (hi : PI X tg iter wi) (hg : PG X tg g) (hb : PSs X body tb)
  (hs : ∀ x, foldedSetIterable iter X.env x = pure x := by intro _; rfl) : PS X (.For tg iter body [] pos) (tFor wi g tb) := by
 intro pins s σ H D I h
 refine wpAny_For (thn (hi pins s σ H _ I h) fun v s1 h1 => thn h1 fun itv s2 h2 => ?_) hs
 obtain ⟨it, fp, tn, J, H2, e, I2, T, st2, f2, W, ⟨m0, w0⟩, turn⟩ := h2
 subst e
 have stat : ∀ {H' : Hp}, (∀ b ∈ fp, H' b = none) → ∀ b ∈ fp, FpOk X pins H' b := fun hn b hb => ⟨hn b hb, (f2 b hb).2⟩
 refine codeAny_forLoop_any (fun n s' => ∃ i σ' H', Inv X pins σ' H' s' ∧ tn i s'.heap ∧ (∀ b ∈ fp, H' b = none) ∧ W i n σ' H') ?_ m0 ⟨0, σ, H2, I2, st2, fun b hb => (f2 b hb).1, w0⟩
 rintro n s3 ⟨i, σ3, H3, I3, st3, fr3, w3⟩
 rcases turn i n σ3 H3 w3 with ⟨stop, qn⟩ | ⟨go, N, hN, step⟩
 ·refine wpAny_passesOwn hp (thn (T.done X rfl rfl rfl hc i pins s3 σ3 H3 X.xe I3 (stat fr3) st3 stop) fun r s4 ⟨hr, I4⟩ => ?_)
  subst hr
  exact wpAny_execs_nil ⟨σ3, H3, I4, qn⟩
 ·refine wpAny_passesOwn hp (thn (T.item X rfl rfl rfl hc i pins s3 σ3 H3 X.xe I3 (stat fr3) st3 go) fun r s4 ⟨u, hr, h4⟩ => ?_)
  subst hr
  refine wpAny_passesOwn hp (thn h4 fun _ s5 ⟨x, H5, I5, r5, y5, st5, fr5⟩ => ?_)
  have I5' := I5.pinned (stat fr5) (T.obj _ _ st5)
  refine wpAny_passesOwn hp (thn (hg _ s5 σ3 H5 x u _ I5' r5 (step x H5 y5)) fun _ s6 ⟨σ6, H6, I6, q6⟩ => ?_)
  refine wpAny_passesOwn hp (thn (hb _ s6 σ6 H6 _ I6 q6) fun f s7 q7 => ?_)
  have again : ∀ {σ7 : St} {H7 : Hp}, Inv X (pins ++ pinsAt fp s5.heap) σ7 H7 s7 → N σ7 H7 → ∃ m, m < n ∧ ∃ i σ' H', Inv X pins σ' H' s7 ∧ tn i s7.heap ∧ (∀ b ∈ fp, H' b = none) ∧ W i m σ' H' := fun {σ7 H7} I7 n7 => by
   obtain ⟨m', hm, w7⟩ := hN σ7 H7 n7
   refine ⟨m', hm, i + 1, σ7, H7, I7.unpinned, T.keep _ _ _ st5 fun b hb o e => (I7.pin (b, o) (List.mem_append_right _ (List.mem_append_right _ (zadu hb e)))).1, fun b hb => ?_, w7⟩
   obtain ⟨o, e, d⟩ := T.obj _ _ st5 b hb
   exact (I7.pin (b, o) (List.mem_append_right _ (List.mem_append_right _ (zadu hb e)))).2.1
  cases f with
  | next => obtain ⟨σ7, H7, I7, n7⟩ := q7; exact again I7 n7
  | cont => obtain ⟨σ7, H7, I7, n7⟩ := q7; exact again I7 n7
  | brk => obtain ⟨σ7, H7, I7, q7⟩ := q7; exact ⟨σ7, H7, I7.unpinned, q7⟩
  | ret v => obtain ⟨x7, σ7, H7, I7, r7, q7⟩ := q7; exact ⟨x7, σ7, H7, I7.unpinned, r7, q7⟩
end
theorem zaln {K : PySem.W.Frag} {a : Addr} {xs : List V} {g : TG} {tb : TS} {D : Ends} {σ : St} {H : Hp} (Pv : Nat → St → Hp → Prop) (h0 : Pv 0 σ H) (hl : ∀ i σ H, i ≤ xs.length → Pv i σ H → SqL K H a xs)
  (hs : ∀ i x σ H, xs[i]? = some x → Pv i σ H → g x σ H fun σ2 H2 => tb { D with nx := Pv (i + 1), ct := Pv (i + 1), bk := D.nx } σ2 H2) (hd : ∀ σ H, Pv xs.length σ H → D.nx σ H) :
  ∃ W : Nat → Nat → St → Hp → Prop, (∃ m, W 0 m σ H) ∧ ∀ i m σ H, W i m σ H →
   ((Itl K a).stop i H ∧ D.nx σ H) ∨ ((Itl K a).go i H ∧ ∃ N : St → Hp → Prop, (∀ σ' H', N σ' H' → ∃ m', m' < m ∧ W (i + 1) m' σ' H') ∧ ∀ x H', (Itl K a).yld i H x H' → g x σ H' fun σ2 H2 => tb { D with nx := N, ct := N, bk := D.nx } σ2 H2) := by
 refine ⟨fun i m σ H => m = xs.length - i ∧ i ≤ xs.length ∧ Pv i σ H, ⟨xs.length, by simp, Nat.zero_le _, h0⟩, ?_⟩
 rintro i m σ H ⟨rfl, hi, p⟩
 have q := hl i σ H hi p
 by_cases hlt : i < xs.length
 ·refine .inr ⟨⟨xs, xs[i], q, by simp [hlt]⟩, Pv (i + 1), fun σ' H' p' => ⟨xs.length - (i + 1), by omega, rfl, hlt, p'⟩, fun x H' y => ?_⟩
  obtain ⟨e, y⟩ := y
  subst e
  exact hs i x σ _ (y xs q) p
 ·have e : i = xs.length := by omega
  subst e
  exact .inl ⟨⟨xs, q, Nat.le_refl _⟩, hd σ H p⟩
theorem zajz {lo : Int} {n : Nat} {g : TG} {tb : TS} {D : Ends} {σ : St} {H : Hp} (Pv : Nat → St → Hp → Prop) (h0 : Pv 0 σ H)
  (hs : ∀ i σ H, i < n → Pv i σ H → g (.int (lo + i)) σ H fun σ2 H2 => tb { D with nx := Pv (i + 1), ct := Pv (i + 1), bk := D.nx } σ2 H2) (hd : ∀ σ H, Pv n σ H → D.nx σ H) :
  ∃ W : Nat → Nat → St → Hp → Prop, (∃ m, W 0 m σ H) ∧ ∀ i m σ H, W i m σ H →
   ((Itr lo n).stop i H ∧ D.nx σ H) ∨ ((Itr lo n).go i H ∧ ∃ N : St → Hp → Prop, (∀ σ' H', N σ' H' → ∃ m', m' < m ∧ W (i + 1) m' σ' H') ∧ ∀ x H', (Itr lo n).yld i H x H' → g x σ H' fun σ2 H2 => tb { D with nx := N, ct := N, bk := D.nx } σ2 H2) := by
 refine ⟨fun i m σ H => m = n - i ∧ i ≤ n ∧ Pv i σ H, ⟨n, by simp, Nat.zero_le _, h0⟩, ?_⟩
 rintro i m σ H ⟨rfl, hi, p⟩
 by_cases hlt : i < n
 ·refine .inr ⟨hlt, Pv (i + 1), fun σ' H' p' => ⟨n - (i + 1), by omega, rfl, hlt, p'⟩, fun x H' y => ?_⟩
  obtain ⟨e, y⟩ := y
  subst e y
  exact hs i σ _ hlt p
 ·have e : i = n := by omega
  subst e
  exact .inl ⟨Nat.le_refl _, hd σ H p⟩
abbrev R2 := V → V → Hp → VK → Prop
def OpR (X : Cx) (f : Value → Value → Sem Value) (r : R2) : Prop :=
 ∀ (pins : List (Addr × Obj)) (s : Shared) (σ : St) (H : Hp) (x y : V) (v u : Value) (Q : VK), Inv X pins σ H s → RelV x v → RelV y u → r x y H Q →
  wpAny (model X.prog X.w) X.A (f v u) (EP X pins σ Q) X.xe s
def UnR (X : Cx) (f : Value → Sem Value) (r : V → Hp → VK → Prop) : Prop :=
 ∀ (pins : List (Addr × Obj)) (s : Shared) (σ : St) (H : Hp) (x : V) (v : Value) (Q : VK), Inv X pins σ H s → RelV x v → r x H Q →
  wpAny (model X.prog X.w) X.A (f v) (EP X pins σ Q) X.xe s
def CallR (X : Cx) (f : Value) (r : List V → Hp → VK → Prop) : Prop :=
 ∀ (pins : List (Addr × Obj)) (s : Shared) (σ : St) (H : Hp) (xs : List V) (us : List Value) (Q : VK), Inv X pins σ H s → Vals xs us → r xs H Q →
  wpAny (model X.prog X.w) X.A (call f us) (EP X pins σ Q) X.xe s
def TruR (X : Cx) (r : V → Hp → (Bool → Hp → Prop) → Prop) : Prop :=
 ∀ (pins : List (Addr × Obj)) (s : Shared) (σ : St) (H : Hp) (x : V) (v : Value) (Q : Bool → Hp → Prop), Inv X pins σ H s → RelV x v → r x H Q →
  wpAny (model X.prog X.w) X.A (truthy v) (TP X pins σ Q) X.xe s
def tOp (r : R2) (ta tb : TE) : TE := fun σ H Q => ta σ H fun x H1 => tb σ H1 fun y H2 => r x y H2 Q
def tUn (r : V → Hp → VK → Prop) (ta : TE) : TE := fun σ H Q => ta σ H fun x H1 => r x H1 Q
def rI (C : Int → Int → Prop) (g : Int → Int → V) : R2 := fun x y H Q => ∃ i j, x = .int i ∧ y = .int j ∧ C i j ∧ Q (g i j) H
def rI0 (g : Int → Int → V) : R2 := fun x y H Q => ∃ i j, x = .int i ∧ y = .int j ∧ Q (g i j) H
def rU (g : Int → V) : V → Hp → VK → Prop := fun x H Q => ∃ i, x = .int i ∧ Q (g i) H
section
variable {X : Cx} {a b c : Expr} {ta tb tc : TE} {pos : Pos}
theorem binT (ha : PE X a ta) (hb : PE X b tb) {pins : List (Addr × Obj)} {s : Shared} {σ : St} {H : Hp} {R : V → V → Hp → Prop} (I : Inv X pins σ H s)
  (h : ta σ H fun x H1 => tb σ H1 fun y H2 => R x y H2) {Q : Value → Shared → Prop} {f : Value → Value → Sem Value}
  (hf : ∀ v u s2 x y H2, Inv X pins σ H2 s2 → RelV x v → RelV y u → R x y H2 → wpAny (model X.prog X.w) X.A (f v u) Q X.xe s2) :
  wpAny (model X.prog X.w) X.A (eval a X.env) (fun v s₁ => wpAny (model X.prog X.w) X.A (eval b X.env) (fun u s₂ => wpAny (model X.prog X.w) X.A (f v u) Q X.xe s₂) X.xe s₁) X.xe s := by
 refine thn (ha pins s σ H _ I h) fun v s1 ⟨x, H1, I1, r1, q1⟩ => ?_
 refine thn (hb pins s1 σ H1 _ I1 q1) fun u s2 ⟨y, H2, I2, r2, q2⟩ => ?_
 exact hf v u s2 x y H2 I2 r1 r2 q2
theorem zarj {op : Operator} {r : R2} (ho : OpR X (binaryOp op) r) (ha : PE X a ta) (hb : PE X b tb) : PE X (.BinOp a op b pos) (tOp r ta tb) := by
 intro pins s σ H Q I h
 exact wpAny_BinOp (binT ha hb I h fun v u s2 x y H2 I2 rx ry q => ho pins s2 σ H2 x y v u Q I2 rx ry q)
theorem zark {op : UnaryOp} {r : V → Hp → VK → Prop} (ho : UnR X (unaryOp op) r) (ha : PE X a ta) : PE X (.UnaryOp op a pos) (tUn r ta) := by
 intro pins s σ H Q I h
 exact UnaryOp_ (thn (ha pins s σ H _ I h) fun v s1 ⟨x, H1, I1, r1, q1⟩ => ho pins s1 σ H1 x v Q I1 r1 q1)
theorem opI {f : Value → Value → Sem Value} {C : Int → Int → Prop} {g : Int → Int → Int}
  (rule : ∀ (i j : Int) (t u : Tok) (s : Shared) (Q : Value → Shared → Prop) (E : Value → Shared → Prop), C i j → Q (.int (g i j) s.toks) { s with toks := s.toks + 1 } → wpAny (model X.prog X.w) X.A (f (.int i t) (.int j u)) Q E s) :
  OpR X f (rI C fun i j => .int (g i j)) := by
 intro pins s σ H x y v u Q I rx ry h
 obtain ⟨i, j, rfl, rfl, hc, q⟩ := h
 obtain ⟨t, rfl⟩ := rx
 obtain ⟨t', rfl⟩ := ry
 exact rule i j t t' s _ _ hc ⟨.int (g i j), H, I.tok _, ⟨_, rfl⟩, q⟩
theorem opI0 {f : Value → Value → Sem Value} {g : Int → Int → Int}
  (rule : ∀ (i j : Int) (t u : Tok) (s : Shared) (Q : Value → Shared → Prop) (E : Value → Shared → Prop), Q (.int (g i j) s.toks) { s with toks := s.toks + 1 } → wpAny (model X.prog X.w) X.A (f (.int i t) (.int j u)) Q E s) :
  OpR X f (rI0 fun i j => .int (g i j)) := by
 intro pins s σ H x y v u Q I rx ry h
 obtain ⟨i, j, rfl, rfl, q⟩ := h
 obtain ⟨t, rfl⟩ := rx
 obtain ⟨t', rfl⟩ := ry
 exact rule i j t t' s _ _ ⟨.int (g i j), H, I.tok _, ⟨_, rfl⟩, q⟩
theorem opB0 {f : Value → Value → Sem Value} {g : Int → Int → Bool}
  (rule : ∀ (i j : Int) (t u : Tok) (s : Shared) (Q : Value → Shared → Prop) (E : Value → Shared → Prop), Q (.bool (g i j)) s → wpAny (model X.prog X.w) X.A (f (.int i t) (.int j u)) Q E s) :
  OpR X f (rI0 fun i j => .bl (g i j)) := by
 intro pins s σ H x y v u Q I rx ry h
 obtain ⟨i, j, rfl, rfl, q⟩ := h
 obtain ⟨t, rfl⟩ := rx
 obtain ⟨t', rfl⟩ := ry
 exact rule i j t t' s _ _ ⟨.bl (g i j), H, I, rfl, q⟩
def CDiv (i j : Int) : Prop := 0 < j ∧ j < 1073741824
def CDivN (i j : Int) : Prop := j ≠ 0 ∧ j.natAbs < 1073741824
def CPow (i j : Int) : Prop := 0 ≤ j ∧ j ≤ 1000000 ∧ i.natAbs < 2 ^ 64
def CMul (i j : Int) : Prop := (-(2 ^ 64) < i ∧ i < 2 ^ 64) ∨ (-(2 ^ 64) < j ∧ j < 2 ^ 64)
theorem CMul.ok {i j : Int} (h : CMul i j) : IntMulOk i j := by
 rcases h with ⟨h1, h2⟩ | ⟨h1, h2⟩
 ·exact .of_left (intBits_le_64 h1 h2)
 ·exact .of_right (intBits_le_64 h1 h2)
theorem zabo : OpR X (binaryOp .Add) (rI0 fun i j => .int (i + j)) := opI0 fun _ _ _ _ _ _ _ q => add_int q
theorem zad3 : OpR X (binaryOp .Sub) (rI0 fun i j => .int (i - j)) := opI0 fun _ _ _ _ _ _ _ q => sub_int q
theorem zacy : OpR X (binaryOp .Mult) (rI CMul fun i j => .int (i * j)) := opI fun _ _ _ _ _ _ _ hc q => mul_int q hc.ok
theorem zabv : OpR X (binaryOp .Mod) (rI (fun _ j => 0 < j) fun i j => .int (i % j)) := opI fun i j _ _ _ _ _ hc q => by
 have h1 : (0 : Int) < j := hc
 exact mod_int' (by omega) (by rw [Int.fmod_eq_emod_of_nonneg i (by omega)]; exact q)
theorem zapu : OpR X (binaryOp .LShift) (rI CPow fun i j => .int (i * 2 ^ j.toNat)) := opI fun _ _ _ _ _ _ _ hc q => lshift_int_small hc.1 hc.2.1 hc.2.2 q
theorem unI {f : Value → Sem Value} {g : Int → Int}
  (rule : ∀ (i : Int) (t : Tok) (s : Shared) (Q : Value → Shared → Prop) (E : Value → Shared → Prop), Q (.int (g i) s.toks) { s with toks := s.toks + 1 } → wpAny (model X.prog X.w) X.A (f (.int i t)) Q E s) :
  UnR X f (rU fun i => .int (g i)) := by
 intro pins s σ H x v Q I rx h
 obtain ⟨i, rfl, q⟩ := h
 obtain ⟨t, rfl⟩ := rx
 exact rule i t s _ _ ⟨.int (g i), H, I.tok _, ⟨_, rfl⟩, q⟩
theorem zams : UnR X (unaryOp .USub) (rU fun i => .int (-i)) := unI fun _ _ _ _ _ q => neg_int q
end
def scal : V → V → Bool
 | .non, .non => true | .non, .int _ => true | .int _, .non => true | .non, .bl _ => true | .bl _, .non => true | .non, .str _ => true | .str _, .non => true
 | .int _, .int _ => true | .bl _, .bl _ => true | .str _, .str _ => true | .byt _, .byt _ => true
 | .int _, .str _ => true | .str _, .int _ => true | .bl _, .str _ => true | .str _, .bl _ => true
 | _, _ => false
def rEq : R2 := fun x y H Q => scal x y = true ∧ Q (.bl (decide (x = y))) H
def rNe : R2 := fun x y H Q => scal x y = true ∧ Q (.bl (!decide (x = y))) H
theorem zaj0 {i j : Int} : decide (V.int i = V.int j) = (i == j) := by
 rw [Bool.eq_iff_iff]
 simp
theorem zamt {i j : Bool} : decide (V.bl i = V.bl j) = (i == j) := by
 rw [Bool.eq_iff_iff]
 simp
theorem zaj1 {i j : Str} : decide (V.str i = V.str j) = (i == j) := by
 rw [Bool.eq_iff_iff]
 simp
theorem zaj2 {i j : Array UInt8} : decide (V.byt i = V.byt j) = (i.toList == j.toList) := by
 rw [Bool.eq_iff_iff]
 cases i
 cases j
 simp
section
variable {X : Cx} {a b c : Expr} {ta tb tc : TE} {pos : Pos}
theorem zabh {pins : List (Addr × Obj)} {σ : St} {H : Hp} {s : Shared} {Q : VK} {k k' : Bool} (I : Inv X pins σ H s) (q : Q (.bl k) H) (e : k = k') : EP X pins σ Q (.bool k') s := by
 subst e
 exact ⟨.bl k, H, I, rfl, q⟩
theorem zabg : OpR X (compareOp .Eq) rEq := by
 intro pins s σ H x y v u Q I rx ry h
 obtain ⟨hs, q⟩ := h
 cases x with
 | non =>
  cases rx
  cases y with
  | non => cases ry; exact PySem.EqNone.eq_none_none (zabh I q (by simp))
  | bl j => cases ry; exact PySem.EqNone.eq_none_bool (zabh I q (by simp))
  | int j => obtain ⟨t', rfl⟩ := ry; exact PySem.EqNone.eq_none_int (zabh I q (by simp))
  | str j => obtain ⟨t', rfl⟩ := ry; exact PySem.EqNone.eq_none_str (zabh I q (by simp))
  | _ => exact absurd (show false = true from hs) Bool.false_ne_true
 | bl i =>
  cases rx
  cases y with
  | non => cases ry; exact PySem.EqNone.eq_bool_none (zabh I q (by simp))
  | bl j => cases ry; exact eq_bool (zabh I q zamt)
  | str j => obtain ⟨t', rfl⟩ := ry; exact PySem.EqMixed.eq_bool_str (zabh I q (by simp))
  | _ => exact absurd (show false = true from hs) Bool.false_ne_true
 | int i =>
  obtain ⟨t, rfl⟩ := rx
  cases y with
  | non => cases ry; exact PySem.EqNone.eq_int_none (zabh I q (by simp))
  | int j => obtain ⟨t', rfl⟩ := ry; exact eq_int (zabh I q zaj0)
  | str j => obtain ⟨t', rfl⟩ := ry; exact PySem.EqMixed.eq_int_str (zabh I q (by simp))
  | _ => exact absurd (show false = true from hs) Bool.false_ne_true
 | str i =>
  obtain ⟨t, rfl⟩ := rx
  cases y with
  | non => cases ry; exact PySem.EqNone.eq_str_none (zabh I q (by simp))
  | bl j => cases ry; exact PySem.EqMixed.eq_str_bool (zabh I q (by simp))
  | int j => obtain ⟨t', rfl⟩ := ry; exact PySem.EqMixed.eq_str_int (zabh I q (by simp))
  | str j => obtain ⟨t', rfl⟩ := ry; exact eq_str (zabh I q zaj1)
  | _ => exact absurd (show false = true from hs) Bool.false_ne_true
 | byt i =>
  obtain ⟨t, rfl⟩ := rx
  cases y with
  | byt j => obtain ⟨t', rfl⟩ := ry; exact PySem.W.eq_bytes (zabh I q zaj2)
  | _ => exact absurd (show false = true from hs) Bool.false_ne_true
 | _ => cases y <;> exact absurd (show false = true from hs) Bool.false_ne_true
theorem zadh : OpR X (compareOp .NotEq) rNe := by
 intro pins s σ H x y v u Q I rx ry h
 obtain ⟨hs, q⟩ := h
 cases x with
 | non =>
  cases rx
  cases y with
  | non => cases ry; exact PySem.EqNone.ne_none_none (zabh I q (by simp))
  | bl j => cases ry; exact PySem.EqNone.ne_none_bool (zabh I q (by simp))
  | int j => obtain ⟨t', rfl⟩ := ry; exact PySem.EqNone.ne_none_int (zabh I q (by simp))
  | str j => obtain ⟨t', rfl⟩ := ry; exact PySem.EqNone.ne_none_str (zabh I q (by simp))
  | _ => exact absurd (show false = true from hs) Bool.false_ne_true
 | bl i =>
  cases rx
  cases y with
  | non => cases ry; exact PySem.EqNone.ne_bool_none (zabh I q (by simp))
  | bl j => cases ry; exact ne_bool (zabh I q (congrArg not zamt))
  | str j => obtain ⟨t', rfl⟩ := ry; exact PySem.EqMixed.ne_bool_str (zabh I q (by simp))
  | _ => exact absurd (show false = true from hs) Bool.false_ne_true
 | int i =>
  obtain ⟨t, rfl⟩ := rx
  cases y with
  | non => cases ry; exact PySem.EqNone.ne_int_none (zabh I q (by simp))
  | int j => obtain ⟨t', rfl⟩ := ry; exact ne_int (zabh I q (congrArg not zaj0))
  | str j => obtain ⟨t', rfl⟩ := ry; exact PySem.EqMixed.ne_int_str (zabh I q (by simp))
  | _ => exact absurd (show false = true from hs) Bool.false_ne_true
 | str i =>
  obtain ⟨t, rfl⟩ := rx
  cases y with
  | non => cases ry; exact PySem.EqNone.ne_str_none (zabh I q (by simp))
  | bl j => cases ry; exact PySem.EqMixed.ne_str_bool (zabh I q (by simp))
  | int j => obtain ⟨t', rfl⟩ := ry; exact PySem.EqMixed.ne_str_int (zabh I q (by simp))
  | str j => obtain ⟨t', rfl⟩ := ry; exact ne_str (zabh I q (congrArg not zaj1))
  | _ => exact absurd (show false = true from hs) Bool.false_ne_true
 | byt i =>
  obtain ⟨t, rfl⟩ := rx
  cases y with
  | byt j => obtain ⟨t', rfl⟩ := ry; exact PySem.W.ne_bytes (zabh I q (congrArg not zaj2))
  | _ => exact absurd (show false = true from hs) Bool.false_ne_true
 | _ => cases y <;> exact absurd (show false = true from hs) Bool.false_ne_true
theorem zaje : OpR X (compareOp .Lt) (rI0 fun i j => .bl (decide (i < j))) := opB0 fun _ _ _ _ _ _ _ q => lt_int q
theorem zaeg : OpR X (compareOp .LtE) (rI0 fun i j => .bl (decide (i ≤ j))) := opB0 fun _ _ _ _ _ _ _ q => le_int q
theorem zaj3 : OpR X (compareOp .Gt) (rI0 fun i j => .bl (decide (j < i))) := opB0 fun _ _ _ _ _ _ _ q => gt_int q
theorem zae1 : OpR X (compareOp .Is) (fun x y H Q => y = .non ∧ Q (.bl (decide (x = .non))) H) := by
 intro pins s σ H x y v u Q I rx ry h
 obtain ⟨rfl, q⟩ := h
 cases ry
 refine is_none_gen (zabh I q ?_)
 cases x <;> first
  | (cases rx; rfl)
  | (obtain ⟨t, rfl⟩ := rx; rfl)
theorem zanl : OpR X (compareOp .IsNot) (fun x y H Q => y = .non ∧ Q (.bl (!decide (x = .non))) H) := by
 intro pins s σ H x y v u Q I rx ry h
 obtain ⟨rfl, q⟩ := h
 cases ry
 refine isnot_none_gen (zabh I q ?_)
 cases x <;> first
  | (cases rx; rfl)
  | (obtain ⟨t, rfl⟩ := rx; rfl)
def isObj : HO → Bool
 | .lst _ => true
 | .ins _ _ _ => true
 | _ => false
theorem nomark (b : Expr) {op : CmpOp} (h : op ≠ .In := by decide) (h2 : op ≠ .NotIn := by decide) : behindInMarks op b = false := by
 have e1 : (op == CmpOp.In) = false := by cases op <;> first | rfl | exact absurd rfl h
 have e2 : (op == CmpOp.NotIn) = false := by cases op <;> first | rfl | exact absurd rfl h2
 cases b <;> simp [behindInMarks, e1, e2]
theorem zanm {op : CmpOp} {r : R2} (ho : OpR X (compareOp op) r) (ha : PE X a ta) (hb : PE X b tb) (hm : behindInMarks op b = false) : PE X (.Compare a [op] [b] pos) (tOp r ta tb) := by
 intro pins s σ H Q I h
 exact wpAny_Compare1 (binT ha hb I h fun v u s2 x y H2 I2 rx ry q => ho pins s2 σ H2 x y v u Q I2 rx ry q) hm
def tTest (t : TE) : TT := fun σ H Q => t σ H fun x H' => ∃ k, x = .bl k ∧ Q k H'
theorem zann {op : CmpOp} {r : R2} (ho : OpR X (compareOp op) r) (ha : PE X a ta) (hb : PE X b tb) (hm : behindInMarks op b = false) : PT X (.Compare a [op] [b] pos) (tTest (tOp r ta tb)) := by
 intro pins s σ H Q I h
 refine wpAny_isTrue_Compare1 (thn (ha pins s σ H _ I h) fun v s1 ⟨x, H1, I1, r1, q1⟩ => thn (hb pins s1 σ H1 _ I1 q1) fun u s2 ⟨y, H2, I2, r2, q2⟩ =>
  thn (ho pins s2 σ H2 x y v u _ I2 r1 r2 q2) fun c s3 ⟨z, H3, I3, r3, k, e, q3⟩ => ?_) hm
 subst e
 cases r3
 exact wpAny_truthy_bool ⟨H3, I3, q3⟩
def tChain (r r' : R2) (ta tb tc : TE) : TE := fun σ H Q => ta σ H fun x H1 => tb σ H1 fun y H2 => r x y H2 fun z H3 => ∃ k, z = .bl k ∧
 (if k = true then tc σ H3 fun w' H4 => r' y w' H4 Q else Q (.bl false) H3)
theorem zalo {op op' : CmpOp} {r r' : R2} (ho : OpR X (compareOp op) r) (ho' : OpR X (compareOp op') r') (ha : PE X a ta) (hb : PE X b tb) (hc : PE X c tc)
  (hm : lastMarks [op, op'] [b, c] = false := by with_unfolding_all rfl) : PE X (.Compare a [op, op'] [b, c] pos) (tChain r r' ta tb tc) := by
 intro pins s σ H Q I h
 refine Compare_chain (thn (ha pins s σ H _ I h) fun v s1 ⟨x, H1, I1, r1, q1⟩ => chain_link (thn (hb pins s1 σ H1 _ I1 q1) fun u s2 ⟨y, H2, I2, r2, q2⟩ =>
  thn (ho pins s2 σ H2 x y v u _ I2 r1 r2 q2) fun d s3 ⟨z, H3, I3, r3, k, e, q3⟩ => ?_)) hm
 subst e
 cases r3
 refine wpAny_truthy_bool ?_
 cases k with
 | false => exact ite_ff ⟨.bl false, H3, I3, rfl, q3⟩
 | true => exact ite_tt (chain_last (thn (hc pins s3 σ H3 _ I3 q3) fun w' s4 ⟨z', H4, I4, r4, q4⟩ => ho' pins s4 σ H4 y z' u w' Q I4 r2 r4 q4))
def TruV (K : PySem.W.Frag) (x : V) (H : Hp) (k : Bool) : Prop :=
 match x with
 | .non => k = false
 | .bl b => k = b
 | .int i => k = (i != 0)
 | .str y => y.length ≤ sizeLine ∧ k = ((y.length : Int) != 0)
 | .byt y => y.size ≤ sizeLine ∧ k = ((y.size : Int) != 0)
 | .ref p => (∃ xs, SqL K H p xs ∧ k = !xs.isEmpty) ∨ (∃ xs, SqT K H p xs ∧ k = !xs.isEmpty) ∨ ∃ kvs, H p = some (.dK kvs) ∧ k = !kvs.isEmpty
 | _ => False
theorem line63 : (sizeLine : Nat) < 2 ^ 63 := by rw [sizeLine_eq]; decide
theorem zaeh : OpR X (binaryOp .Add) (fun x y H Q => ∃ i j, x = .str i ∧ y = .str j ∧ i.length + j.length ≤ sizeLine ∧ Q (.str (i ++ j)) H) := by
 intro pins s σ H x y v u Q I rx ry h
 obtain ⟨i, j, rfl, rfl, hz, q⟩ := h
 obtain ⟨t, rfl⟩ := rx
 obtain ⟨t', rfl⟩ := ry
 exact add_str (fun t' tk => ⟨.str (i ++ j), H, I.tok _, ⟨_, rfl⟩, q⟩) hz
def PlainIxT (b : Expr) : Prop := ∀ o i, subscripted b false o i = operate [o, i] (getItem o i)
theorem vals1 {x : V} {us : List Value} (r : Vals [x] us) : ∃ u, us = [u] ∧ RelV x u := by
 cases r with
 | cons r1 r2 => cases r2; exact ⟨_, rfl, r1⟩
theorem vals2 {x y : V} {us : List Value} (r : Vals [x, y] us) : ∃ u w', us = [u, w'] ∧ RelV x u ∧ RelV y w' := by
 cases r with
 | cons r1 r2 =>
  cases r2 with
  | cons r3 r4 => cases r4; exact ⟨_, _, rfl, r1, r3⟩
theorem zahf (hc : X.calm = true) : CallR X (.builtin "max") (fun xs H Q => ∃ i j, xs = [.int i, .int j] ∧ Q (.int (if j > i then j else i)) H) := by
 intro pins s σ H xs us Q I r h
 obtain ⟨i, j, rfl, q⟩ := h
 obtain ⟨u, w', rfl, ⟨t, rfl⟩, ⟨t', rfl⟩⟩ := vals2 r
 refine max_two_ints (I.ok.hd hc) fun h' tk k => ⟨_, H, I.kept k, ?_, q⟩
 by_cases hj : j > i
 ·rw [if_pos hj, if_pos hj]; exact ⟨_, rfl⟩
 ·rw [if_neg hj, if_neg hj]; exact ⟨_, rfl⟩
theorem zaj4 (hc : X.calm = true) : CallR X (.builtin "min") (fun xs H Q => ∃ i j, xs = [.int i, .int j] ∧ Q (.int (if j < i then j else i)) H) := by
 intro pins s σ H xs us Q I r h
 obtain ⟨i, j, rfl, q⟩ := h
 obtain ⟨u, w', rfl, ⟨t, rfl⟩, ⟨t', rfl⟩⟩ := vals2 r
 refine min_two_ints (I.ok.hd hc) fun h' tk k => ⟨_, H, I.kept k, ?_, q⟩
 by_cases hj : j < i
 ·rw [if_pos hj, if_pos hj]; exact ⟨_, rfl⟩
 ·rw [if_neg hj, if_neg hj]; exact ⟨_, rfl⟩
theorem zacn : CallR X (.type "int") (fun xs H Q => (∃ i, xs = [.int i] ∧ Q (.int i) H) ∨ ∃ k, xs = [.bl k] ∧ Q (.int (if k then 1 else 0)) H) := by
 intro pins s σ H xs us Q I r h
 rcases h with ⟨i, rfl, q⟩ | ⟨k, rfl, q⟩
 ·obtain ⟨u, rfl, t, rfl⟩ := vals1 r
  exact call_int_int ⟨.int i, H, I, ⟨_, rfl⟩, q⟩
 ·obtain ⟨u, rfl, r1⟩ := vals1 r
  cases r1
  exact call_int_bool ⟨.int (if k then 1 else 0), H, I.tok _, ⟨_, rfl⟩, q⟩
def LenV (K : PySem.W.Frag) (x : V) (H : Hp) (n : Nat) : Prop :=
 match x with
 | .str y => y.length ≤ sizeLine ∧ n = y.length
 | .byt y => y.size ≤ sizeLine ∧ n = y.size
 | .ref p => (∃ xs, SqL K H p xs ∧ n = xs.length) ∨ ∃ xs, SqT K H p xs ∧ n = xs.length
 | _ => False
end
structure ObjM (h : Heap) (x dx C : Addr) (mA : Str → Option Value) : Prop where
 obj : h.get? x = some (PySem.W.instObj C dx)
 ns : h.Ns1 dx mA
 ne : dx ≠ x
theorem zahg {h : Heap} {dx : Addr} {mA : Str → Option Value} (n : h.Ns1 dx mA) : ∃ od, h.get? dx = some od ∧ ∀ name, PySem.W.lookIn name od = some (mA name) := by
 obtain ⟨o, es, ep, ho, hd, hk, _, hm⟩ := n
 refine ⟨o, ho, fun name => ?_⟩
 have e := hm name
 unfold nsFind findBy at e
 rw [← Array.find?_toList] at e
 unfold PySem.W.lookIn
 rw [hd]
 dsimp only
 split
 ·rename_i y q
  rw [q] at e
  exact congrArg some e
 ·rename_i q
  rw [q] at e
  have a : es.toList.any (·.refKey) = false := by
   rw [List.any_eq_false]
   intro y hy
   obtain ⟨z, t, hkey⟩ := hk y (Array.mem_toList_iff.mp hy)
   simp [DictEntry.refKey, hkey]
  have a' : ¬ es.toList.any (·.refKey) = true := by rw [a]; exact Bool.false_ne_true
  rw [if_neg a']
  exact congrArg some e
theorem ObjM.look {h : Heap} {x dx C : Addr} {mA : Str → Option Value} (I : ObjM h x dx C mA) : ∃ od, PySem.W.InstAt h x (PySem.W.instObj C dx) C (some od) ∧ ∀ name, PySem.W.lookIn name od = some (mA name) :=
 let ⟨od, ho, hl⟩ := zahg I.ns
 ⟨od, ⟨I.obj, rfl, rfl, ho⟩, hl⟩
section
variable {prog : Program} {w : World} {A : Around} {E : Value → Shared → Prop} {s : Shared} {K : PySem.W.Frag} {x dx C f : Addr} {mA : Str → Option Value} {name : Str} {v : Value}
theorem zano {expr : Bool} {Q : Value → Shared → Prop} (X : K.In s.heap) (I : ObjM s.heap x dx C mA) (hg : PySem.W.plainGet K C name = true) (hh : PySem.W.hasDictIn K C = true)
  (ha : PySem.W.findIn K (.ref C) name = some none) (hv : mA name = some v) (hv' : PySem.W.handedIn v = true) (h : Q v { s with toks := s.toks + 1 }) :
  wpAny (model prog w) A (getAttr (.ref x) name expr) Q E s := by
 obtain ⟨od, J, hl⟩ := I.look
 exact PySem.W.get_value X J (PySem.W.plainGet_of hg).1 (PySem.W.findObj_own hh ha rfl (by rw [hl, hv])) hv' h
theorem zanp {ns : List Str} {Q : Unit → Shared → Prop} (X : K.In s.heap) (I : ObjM s.heap x dx C mA)
  (hs : PySem.W.findIn K (.ref C) "__setattr__" = some (some (.builtin "object.__setattr__"))) (hp : PySem.W.plainOver K C = true) (ht : PySem.W.takerIn K C name = some none) (hh : PySem.W.hasDictIn K C = true)
  (hw : PySem.Within mA ns) (hsz : ns.length ≤ sizeLine)
  (h : ∀ h', ObjM h' x dx C (fun y => if y = name then some v else mA y) → Heap.SameBut dx s.heap h' → Q () { s with heap := h', toks := s.toks + 2 }) :
  wpAny (model prog w) A (setAttr (.ref x) name v) Q E s := by
 obtain ⟨od, J, hl⟩ := I.look
 refine PySem.W.set_plain X J hs (PySem.W.osa_open (s := { s with toks := s.toks + 1 }) (r := none) X J hp ht fun b => ?_)
 obtain ⟨cd, hc, hd'⟩ := PySem.W.any_some hh
 have hx : s.heap.get? x = some ⟨.ref C, some dx, .plain, #[]⟩ := I.obj
 refine wpAny_bind (wpAny_pure (wpAny_bind (wpAny_bind (wpAny_loadPart hx (wpAny_bind (PySem.W.Looks.here (s := { s with toks := s.toks + 1 }) (PySem.W.looks_clsIn X hc) ?_))))))
 rw [hd']
 refine wpAny_pure (a := some dx) (wpAny_bind (wpAny_pure (wpAny_bind ?_)))
 refine wpAny_nsSet1 (s := { s with toks := s.toks + 1 }) I.ns fun h' hn2 hs2 => ?_
 obtain ⟨oD, esD, epD, hoD, hdD, hcD⟩ := hn2.count (PySem.Within.cons name v hw)
 refine wpAny_bind (wpAny_lookBehind hoD (by rw [hdD]; exact pastItsLine_dict (Nat.le_trans hcD (by rw [List.length_cons]; omega))) ?_)
 exact wpAny_pure (h _ ⟨(hs2.2 _ (Ne.symm I.ne)).trans I.obj, hn2, I.ne⟩ hs2)
theorem zalp {R : Result → Shared → Prop} {vs : List Value} {kw : List (Str × Value)} (X : K.In s.heap) (hm : PySem.W.makesIn K C = true)
  (hi : PySem.W.findIn K (.ref C) "__init__" = some (some (.ref f))) (hf : PySem.W.typeIn K (.ref f) = some (.type "function"))
  (h : codeAny (model prog w) (A.under (.builtin "type.__call__" ⟨.ref C :: vs, kw⟩)) (.call (.ref f) ⟨.ref (s.heap.objs.size + 1) :: vs, kw⟩) (PySem.W.InitBack (s.heap.objs.size + 1) R)
   { s with heap := (s.heap.push PySem.W.emptyDict).push (PySem.W.instObj C s.heap.objs.size) }) :
  codeAny (model prog w) A (.call (.ref C) ⟨vs, kw⟩) R s := by
 obtain ⟨hh, g, d, t, os⟩ := s
 exact PySem.W.make_core (PySem.W.makes_of X hm) (PySem.W.looks_findIn X hi) (fun self => PySem.W.bind_fn X self hf) (.inl rfl) h
end
def putF (f : Str) (v : V) : List (Str × V) → List (Str × V)
 | [] => [(f, v)]
 | (g, x) :: r => if g = f then (g, v) :: r else (g, x) :: putF f v r
theorem zafe (f g : Str) (v : V) : ∀ fs : List (Str × V), (putF f v fs).lookup g = if g = f then some v else fs.lookup g
 | [] => by
  show List.lookup g [(f, v)] = _
  by_cases h : g = f
  ·have hb : (g == f) = true := beq_iff_eq.mpr h
   simp only [List.lookup, hb, if_pos h]
  ·have hb : (g == f) = false := beq_eq_false_iff_ne.mpr h
   simp only [List.lookup, hb, if_neg h]
 | (k, x) :: r => by
  have ih := zafe f g v r
  rw [show putF f v ((k, x) :: r) = (if k = f then (k, v) :: r else (k, x) :: putF f v r) from rfl]
  by_cases hk : k = f
  ·rw [if_pos hk]
   by_cases h : g = k
   ·have hb : (g == k) = true := beq_iff_eq.mpr h
    simp only [List.lookup, hb, if_pos (h.trans hk)]
   ·have hb : (g == k) = false := beq_eq_false_iff_ne.mpr h
    simp only [List.lookup, hb, if_neg (fun e : g = f => h (e.trans hk.symm))]
  ·rw [if_neg hk]
   by_cases h : g = k
   ·have hb : (g == k) = true := beq_iff_eq.mpr h
    simp only [List.lookup, hb, if_neg (fun e : g = f => hk (h.symm.trans e))]
   ·have hb : (g == k) = false := beq_eq_false_iff_ne.mpr h
    simp only [List.lookup, hb]
    exact ih
theorem zaff (f : Str) (v : V) : ∀ fs : List (Str × V), f ∈ (putF f v fs).map (·.1) ∧ ∀ g, g ∈ fs.map (·.1) → g ∈ (putF f v fs).map (·.1)
 | [] => ⟨by simp [putF], fun g h => by simp at h⟩
 | (k, x) :: r => by
  obtain ⟨i1, i2⟩ := zaff f v r
  rw [show putF f v ((k, x) :: r) = (if k = f then (k, v) :: r else (k, x) :: putF f v r) from rfl]
  by_cases hk : k = f
  ·rw [if_pos hk]
   subst hk
   exact ⟨by simp, fun g h => by simpa using h⟩
  ·rw [if_neg hk]
   refine ⟨?_, fun g h => ?_⟩
   ·rw [List.map_cons]
    exact List.mem_cons_of_mem _ i1
   ·rw [List.map_cons] at h ⊢
    rcases List.mem_cons.mp h with e | e
    ·exact List.mem_cons.mpr (.inl e)
    ·exact List.mem_cons_of_mem _ (i2 g e)
theorem zafg (f : Str) (v : V) : ∀ fs : List (Str × V), (putF f v fs).length ≤ fs.length + 1
 | [] => by simp [putF]
 | (k, x) :: r => by
  have ih := zafg f v r
  rw [show putF f v ((k, x) :: r) = (if k = f then (k, v) :: r else (k, x) :: putF f v r) from rfl]
  by_cases hk : k = f
  ·rw [if_pos hk, List.length_cons, List.length_cons]; omega
  ·rw [if_neg hk, List.length_cons, List.length_cons]; omega
theorem RelO.some_of {v : V} {o : Option Value} (r : RelO (some v) o) : ∃ u, o = some u ∧ RelV v u := by
 cases o with
 | none => exact (show False from r).elim
 | some u => exact ⟨u, rfl, r⟩
theorem zahh {v : V} {u : Value} (r : RelV v u) : PySem.W.handedIn u = true := by
 cases v with
 | non => cases (show u = Value.none from r); rfl
 | bl b => cases (show u = Value.bool b from r); rfl
 | int i => obtain ⟨t, e⟩ := (show ∃ t, u = Value.int i t from r); cases e; rfl
 | str x => obtain ⟨t, e⟩ := (show ∃ t, u = Value.str x t from r); cases e; rfl
 | byt b => obtain ⟨t, e⟩ := (show ∃ t, u = Value.bytes b t from r); cases e; rfl
 | flt b => obtain ⟨t, e⟩ := (show ∃ t, u = Value.float b t from r); cases e; rfl
 | ref a => cases (show u = Value.ref a from r); rfl
 | ty n => cases (show u = Value.type n from r); rfl
section
variable {P : Program} {w : World} {H H' : Hp} {h h' : Heap} {a C dx : Addr} {fs fs' : List (Str × V)}
theorem zagm (hok : HOk P w H h) (e : H a = some (.ins C dx fs)) : ∃ mA, ObjM h a dx C mA ∧ (∀ f, RelO (fs.lookup f) (mA f)) ∧ PySem.Within mA (fs.map (·.1)) ∧ fs.length ≤ 1000 ∧ H dx = some (.own a) := by
 obtain ⟨d, z, ne, ob, mA, n, r, q⟩ := (show ObjOk P w H h a (.ins C dx fs) from hok a _ e)
 exact ⟨mA, ⟨ob, n, ne⟩, r, q, z, d⟩
end
structure Cls (K : PySem.W.Frag) (C : Addr) : Prop where
 pg : PySem.W.plainGet K C Str.empty = true
 hd : PySem.W.hasDictIn K C = true
 po : PySem.W.plainOver K C = true
 sa : PySem.W.findIn K (.ref C) "__setattr__" = some (some (.builtin "object.__setattr__"))
theorem Cls.get {K : PySem.W.Frag} {C : Addr} (c : Cls K C) (f : Str) : PySem.W.plainGet K C f = true := c.pg
def NoAttr (K : PySem.W.Frag) (C : Addr) (f : Str) : Prop := PySem.W.findIn K (.ref C) f = some none
theorem NoAttr.taker {K : PySem.W.Frag} {C : Addr} {f : Str} (n : NoAttr K C f) : PySem.W.takerIn K C f = some none := by
 unfold PySem.W.takerIn
 rw [show PySem.W.findIn K (.ref C) f = some none from n]
 rfl
structure Con (K : PySem.W.Frag) (C : Addr) (f : Str) (v : V) (u : Value) : Prop where
 at_ : PySem.W.findIn K (.ref C) f = some (some u)
 rel : RelV v u
 get : PySem.W.specialIn K u "__get__" = some none
 cp : PySem.W.copiedNames.contains f = false
structure Meth (K : PySem.W.Frag) (C : Addr) (m : Str) (f : Addr) : Prop where
 at_ : PySem.W.findIn K (.ref C) m = some (some (.ref f))
 fn : PySem.W.isFn K (.ref f) = true
 kp : PySem.W.keepIn K (.ref f) = true
section
variable {X : Cx} {pins : List (Addr × Obj)} {σ : St} {H : Hp} {s : Shared} {a C dx : Addr} {fs : List (Str × V)} {f : Str} {v : V} {A : Around} {E : Value → Shared → Prop}
theorem zajf {b : Bool} {Q : Value → Shared → Prop} (I : Inv X pins σ H s) (e : H a = some (.ins C dx fs)) (c : Cls X.K C) (n : NoAttr X.K C f) (l : fs.lookup f = some v)
  (h : ∀ u s', Inv X pins σ H s' → RelV v u → Q u s') : wpAny (model X.prog X.w) A (getAttr (.ref a) f b) Q E s := by
 obtain ⟨mA, O, r, _, _, _⟩ := zagm I.hok e
 obtain ⟨u, hu, ru⟩ := RelO.some_of (v := v) (o := mA f) (by rw [← l]; exact r f)
 exact zano I.kIn O (c.get f) c.hd n hu (zahh ru) (h u _ (I.tok _) ru)
theorem zajg {y : V} {u : Value} {Q : Unit → Shared → Prop} (I : Inv X pins σ H s) (e : H a = some (.ins C dx fs)) (c : Cls X.K C) (n : NoAttr X.K C f) (hl : fs.length < 1000) (ry : RelV y u)
  (h : ∀ s', Inv X pins σ (upd H a (.ins C dx (putF f y fs))) s' → Q () s') : wpAny (model X.prog X.w) A (setAttr (.ref a) f u) Q E s := by
 obtain ⟨mA, O, r, wi, _, ho⟩ := zagm I.hok e
 have hz : (fs.map (·.1)).length ≤ sizeLine := by rw [List.length_map, sizeLine_eq]; omega
 refine zanp I.kIn O c.sa c.po n.taker c.hd wi hz fun h' O' sb => h _ ?_
 have hd : ∃ o, h'.get? dx = some o := let ⟨o, _, _, e', _⟩ := O'.ns; ⟨o, e'⟩
 refine I.write (x := a) (e := dx) (by rw [e]; exact True.intro) (.inr ho) (fun b q hb z => (sb.2 b hb).trans z) hd ?_
 refine ⟨by rw [zaav O.ne]; exact ho, ?_, O.ne, O'.obj, _, O'.ns, fun g => ?_, fun g hg => ?_⟩
 ·have := zafg f y fs; omega
 ·show RelO ((putF f y fs).lookup g) (if g = f then some u else mA g)
  rw [zafe]
  by_cases q : g = f
  ·rw [if_pos q, if_pos q]; exact ry
  ·rw [if_neg q, if_neg q]; exact r g
 ·by_cases q : g = f
  ·rw [q]; exact (zaff f y fs).1
  ·refine (zaff f y fs).2 g (wi g fun z => hg ?_)
   show (if g = f then some u else mA g) = none
   rw [if_neg q]; exact z
theorem Inv.made (I : Inv X pins σ H s) : Inv X pins σ (upd (upd H s.heap.objs.size (.own (s.heap.objs.size + 1))) (s.heap.objs.size + 1) (.ins C s.heap.objs.size []))
  { s with heap := (s.heap.push PySem.W.emptyDict).push (PySem.W.instObj C s.heap.objs.size) } := by
 have e1 : (s.heap.push PySem.W.emptyDict).get? s.heap.objs.size = some PySem.W.emptyDict := Heap.get?_push_size s.heap rfl
 have e2 : ((s.heap.push PySem.W.emptyDict).push (PySem.W.instObj C s.heap.objs.size)).get? (s.heap.objs.size + 1) = some (PySem.W.instObj C s.heap.objs.size) := by
  have := Heap.get?_push_size (s.heap.push PySem.W.emptyDict) (o := PySem.W.instObj C s.heap.objs.size) rfl
  rwa [Heap.size_push] at this
 have e3 : (s.heap.push PySem.W.emptyDict).Ns s.heap.objs.size (fun _ => none) := ⟨PySem.W.emptyDict, #[], _, e1, rfl, (fun e he => absurd he (by simp)), fun _ => rfl⟩
 have I1 := I.laid (a := s.heap.objs.size) (o := .own (s.heap.objs.size + 1)) (h' := s.heap.push PySem.W.emptyDict) (t' := s.toks) (fun b u q => Heap.get?_push_of_some _ q) (Nat.le_refl _) ⟨_, e1⟩
 refine I1.laid (a := s.heap.objs.size + 1) (o := .ins C s.heap.objs.size []) (t' := s.toks) (fun b u q => Heap.get?_push_of_some _ q) (Nat.le_of_eq (Heap.size_push _ _)) ?_
 have ne : s.heap.objs.size ≠ s.heap.objs.size + 1 := Nat.ne_of_lt (Nat.lt_succ_self _)
 refine ⟨by rw [zaav ne, zaah], Nat.zero_le _, ne, e2, fun _ => none, (Heap.Ns1.of_empty e3).at fun o q => Heap.get?_push_of_some _ q, fun _ => True.intro, fun y hy => absurd rfl hy⟩
theorem zaj5 {prog : Program} {w : World} {env : Env} {e : Expr} {f : Str} {pos : Pos} {s : Shared} {Q : Value → Shared → Prop} (hb : attributeBase e f env (eval e env) = eval e env)
  (h : wpAny (model prog w) A (eval e env) (fun o s₁ => wpAny (model prog w) A (getAttr o f true) Q E s₁) E s) : wpAny (model prog w) A (eval (.Attribute e f pos) env) Q E s :=
 Attribute_any_ h (by rw [arm_eval_Attribute, hb])
end
def tFld (K : PySem.W.Frag) (ta : TE) (f : Str) : TE := fun σ H Q => ta σ H fun x H1 => ∃ a C dx fs v, x = .ref a ∧ H1 a = some (.ins C dx fs) ∧ Cls K C ∧ NoAttr K C f ∧ fs.lookup f = some v ∧ Q v H1
def tCon (K : PySem.W.Frag) (ta : TE) (f : Str) : TE := fun σ H Q => ta σ H fun x H1 => ∃ a C dx fs v u, x = .ref a ∧ H1 a = some (.ins C dx fs) ∧ Cls K C ∧ Con K C f v u ∧ fs.lookup f = none ∧ Q v H1
def sFld (K : PySem.W.Frag) (ta tv : TE) (f : Str) : TS := fun D σ H => tv σ H fun y H1 => ta σ H1 fun x H2 => ∃ a C dx fs, x = .ref a ∧ H2 a = some (.ins C dx fs) ∧ Cls K C ∧ NoAttr K C f ∧ fs.length < 1000 ∧
 D.nx σ (upd H2 a (.ins C dx (putF f y fs)))
def InOp (X : Cx) (op : Operator) (rd : V → V → Hp → VK → Prop) : Prop :=
 ∀ (pins : List (Addr × Obj)) (s : Shared) (σ : St) (H : Hp) (x y : V) (u v : Value) (Q : VK), Inv X pins σ H s → RelV x u → RelV y v → rd x y H Q → wpAny (model X.prog X.w) X.A (inplaceOp op u v) (EP X pins σ Q) X.xe s
def sFldAug (K : PySem.W.Frag) (ta tv : TE) (rd : V → V → Hp → VK → Prop) (f : Str) : TS := fun D σ H => ta σ H fun x H1 => ∃ a C dx fs v, x = .ref a ∧ H1 a = some (.ins C dx fs) ∧ Cls K C ∧ NoAttr K C f ∧ fs.lookup f = some v ∧
 tv σ H1 fun y H2 => rd v y H2 fun z H3 => ∃ dx' fs', H3 a = some (.ins C dx' fs') ∧ fs'.length < 1000 ∧ D.nx σ (upd H3 a (.ins C dx' (putF f z fs')))
section
variable {X : Cx} {o e value : Expr} {f : Str} {pos pos' tpos : Pos} {ta tv : TE}
theorem zamu (he : PE X e ta) (hb : attributeBase e f X.env (eval e X.env) = eval e X.env) : PE X (.Attribute e f pos) (tFld X.K ta f) := by
 intro pins s σ H Q I h
 refine zaj5 hb (thn (he pins s σ H _ I h) fun u s1 ⟨x, H1, I1, rx, a, C, dx, fs, v, ex, ea, c, n, l, q⟩ => ?_)
 subst ex
 obtain rfl : u = Value.ref a := rx
 exact zajf I1 ea c n l fun u' s2 I2 ru => ⟨v, H1, I2, ru, q⟩
theorem zapv (ha : PE X o ta) (hv : PE X value tv) (hs : swapsWith value (some (.Attribute o f pos')) pos.line X.env = pure false) : PS X (.Assign [.Attribute o f pos'] value pos) (sFld X.K ta tv f) := by
 intro pins s σ H D I h
 refine plainObj_wpAny_Assign_Attribute (thn (hv pins s σ H _ I h) fun u s1 ⟨y, H1, I1, ry, q⟩ => thn (ha pins s1 σ H1 _ I1 q) fun ov s2 ⟨x, H2, I2, rx, a, C, dx, fs, ex, ea, c, n, l, q2⟩ => ?_) hs
 subst ex
 obtain rfl : ov = Value.ref a := rx
 exact zajg I2 ea c n l ry fun s3 I3 => ⟨σ, _, I3, q2⟩
def rAdd : V → V → Hp → VK → Prop := fun x y H Q => ∃ i j, x = .int i ∧ y = .int j ∧ Q (.int (i + j)) H
def rSub : V → V → Hp → VK → Prop := fun x y H Q => ∃ i j, x = .int i ∧ y = .int j ∧ Q (.int (i - j)) H
end
section
variable {X : Cx} {pins : List (Addr × Obj)} {σ : St} {H : Hp} {s : Shared} {A : Around} {E : Value → Shared → Prop} {Q : Value → Shared → Prop} {c : Value} {b : Bool}
inductive TyOf (K : PySem.W.Frag) (H : Hp) : V → Value → Prop where
 | non : TyOf K H .non (.type "NoneType")
 | bl (x : Bool) : TyOf K H (.bl x) (.type "bool")
 | int (i : Int) : TyOf K H (.int i) (.type "int")
 | str (x : Str) : TyOf K H (.str x) (.type "str")
 | flt (x : UInt64) : TyOf K H (.flt x) (.type "float")
 | lst {a : Addr} {xs : List V} (e : H a = some (.lst xs)) : TyOf K H (.ref a) (.type "list")
 | frz {a : Addr} {o : Obj} {xs : List V} (e : H a = some (.frz o (.lst xs))) : TyOf K H (.ref a) (.type "list")
 | tup {a : Addr} {xs : List V} (e : H a = some (.tup xs)) : TyOf K H (.ref a) (.type "tuple")
 | dK {a : Addr} {kvs : List (Key × V)} (e : H a = some (.dK kvs)) : TyOf K H (.ref a) (.type "dict")
 | dT {a : Addr} {kvs : List (List Key × V)} (e : H a = some (.dT kvs)) : TyOf K H (.ref a) (.type "dict")
 | ins {a C dx : Addr} {fs : List (Str × V)} (e : H a = some (.ins C dx fs)) (cl : Cls K C) (ha : PySem.W.findIn K (.ref C) "__class__" = some (some (.builtin "object.__class__")))
   (hn : PySem.W.specialIn K (.builtin "object.__class__") "__get__" = some (some (.builtin "getset_descriptor.__get__"))) (htk : PySem.W.takesIn K (.builtin "object.__class__") = some true)
   (hm : PySem.W.mroIn K C (.type "object") = some true) : TyOf K H (.ref a) (.ref C)
theorem zaj6 {x : V} {u t : Value} (I : Inv X pins σ H s) (rx : RelV x u) (ty : TyOf X.K H x t) (e : PySem.W.kitOne X.K t c = some b) (h : ∀ tk, Q (.bool b) { s with toks := tk }) :
  wpAny (model X.prog X.w) A (call (.builtin "isinstance") [u, c]) Q E s := by
 cases ty with
 | non => cases (show u = Value.none from rx); exact PySem.W.kia_one PySem.W.kitx_none I.kIn True.intro e (fun z => nomatch z) h
 | bl y => cases (show u = Value.bool y from rx); exact PySem.W.kia_one PySem.W.kitx_bool I.kIn True.intro e (fun z => nomatch z) h
 | int i => obtain ⟨t, q⟩ := (show ∃ t, u = Value.int i t from rx); cases q; exact PySem.W.kia_one PySem.W.kitx_int I.kIn True.intro e (fun z => nomatch z) h
 | str y => obtain ⟨t, q⟩ := (show ∃ t, u = Value.str y t from rx); cases q; exact PySem.W.kia_one PySem.W.kitx_str I.kIn True.intro e (fun z => nomatch z) h
 | flt y => obtain ⟨t, q⟩ := (show ∃ t, u = Value.float y t from rx); cases q; exact PySem.W.kia_one PySem.W.kitx_float I.kIn True.intro e (fun z => nomatch z) h
 | @lst a xs ea =>
  cases (show u = Value.ref a from rx)
  obtain ⟨_, _, n, _, h1⟩ := (show ObjOk X.prog X.w H s.heap a (.lst xs) from I.hok a _ ea)
  exact PySem.W.kia_one PySem.W.kitx_list I.kIn ⟨_, h1, rfl⟩ e (fun z => nomatch z) h
 | @frz a ob xs ea =>
  cases (show u = Value.ref a from rx)
  obtain ⟨_, _, _, n, _, h1⟩ := (show ObjOk X.prog X.w H s.heap a (.frz ob (.lst xs)) from I.hok a _ ea)
  exact PySem.W.kia_one PySem.W.kitx_list I.kIn ⟨_, h1, rfl⟩ e (fun z => nomatch z) h
 | @tup a xs ea =>
  cases (show u = Value.ref a from rx)
  obtain ⟨_, _, _, p⟩ := (show ObjOk X.prog X.w H s.heap a (.tup xs) from I.hok a _ ea)
  obtain ⟨o, h1, h2, _⟩ := p
  exact PySem.W.kia_one PySem.W.kitx_tuple I.kIn ⟨o, h1, h2⟩ e (fun z => nomatch z) h
 | @dK a kvs ea =>
  cases (show u = Value.ref a from rx)
  obtain ⟨_, _, vs, _, p⟩ := (show ObjOk X.prog X.w H s.heap a (.dK kvs) from I.hok a _ ea)
  obtain ⟨o, es, ep, h1, h2, _⟩ := p
  exact PySem.W.kia_one PySem.W.kitx_dict I.kIn ⟨o, h1, h2.1⟩ e (fun z => nomatch z) h
 | @dT a kvs ea =>
  cases (show u = Value.ref a from rx)
  obtain ⟨_, _, xs, _, o, es, ep, h1, h2, _⟩ := (show ObjOk X.prog X.w H s.heap a (.dT kvs) from I.hok a _ ea)
  exact PySem.W.kia_one PySem.W.kitx_dict I.kIn ⟨o, h1, h2.1⟩ e (fun z => nomatch z) h
 | @ins a C dx fs ea cl ha hn htk hm =>
  cases (show u = Value.ref a from rx)
  obtain ⟨mA, O, _⟩ := zagm I.hok ea
  obtain ⟨od, J, _⟩ := O.look
  exact PySem.W.kia_one (PySem.W.kitx_own (cl.get _) cl.hd ha hn htk hm) I.kIn J e (fun z => nomatch z) h
end
structure Room (k : Nat) (A : Around) : Prop where
 hd : A.handled = none
 dp : A.depth + 3 * k + 5 < recursionLimit
 un : A.units + 16 * k + 200 < cLine
theorem Room.mono {j k : Nat} {A : Around} (r : Room k A) (h : j ≤ k) : Room j A := ⟨r.hd, by have := r.dp; omega, by have := r.un; omega⟩
theorem Room.deeper {k : Nat} {A : Around} (r : Room (k + 1) A) (env : Env) : Room k (A.deeper env) :=
 ⟨r.hd, by have := r.dp; show A.depth + 1 + 3 * k + 5 < _; omega, by have := r.un; show A.units + 3 + 16 * k + 200 < _; omega⟩
theorem zajh {A : Around} {C : Addr} {us : List Value} {kw : List (Str × Value)} : (A.under (.builtin "type.__call__" ⟨.ref C :: us, kw⟩)).depth = A.depth + 1 := by
 first | rfl | simp [Around.under, Code.weight, Code.isCreation, Code.isGuard, Code.isCaller, Code.frames, Code.isFrame, guardIds]
theorem zaji {A : Around} {C : Addr} {us : List Value} {kw : List (Str × Value)} : (A.under (.builtin "type.__call__" ⟨.ref C :: us, kw⟩)).units = A.units + 1 := by
 first | rfl | simp [Around.under, Code.cUnits, Code.frames, Code.isFrame]
theorem Room.make {k : Nat} {A : Around} (r : Room (k + 1) A) (C : Addr) (us : List Value) (kw : List (Str × Value)) : Room k (A.under (.builtin "type.__call__" ⟨.ref C :: us, kw⟩)) :=
 ⟨r.hd, by have := r.dp; rw [zajh]; omega, by have := r.un; rw [zaji]; omega⟩
theorem Room.depth {k : Nat} {A : Around} (r : Room k A) : A.depth < recursionLimit := by have := r.dp; omega
theorem Room.units {k : Nat} {A : Around} (r : Room k A) : A.units + 64 < cLine := by have := r.un; omega
def tNil : TA := fun _ H Q => Q [] H
def tCons (ta : TE) (tr : TA) : TA := fun σ H Q => ta σ H fun x H1 => tr σ H1 fun xs H2 => Q (x :: xs) H2
section
variable {X : Cx} {e : Expr} {es : List Expr} {te : TE} {t : TA} {pos : Pos}
theorem zapw : PA X [] tNil := fun _ _ _ _ H Q I h => Calls.spliced_nil ⟨[], H, I, .nil, h⟩
theorem zanq (ha : PE X e te) (hr : PA X es t) (hs : starEach (e :: es) X.env = (false, eval e X.env) :: starEach es X.env := by rfl) : PA X (e :: es) (tCons te t) := by
 intro pos pins s σ H Q I h
 rw [hs]
 show wpAny _ _ (spliced ((false, eval e X.env) :: backTo pos (starEach es X.env))) _ _ s
 refine Calls.spliced_cons (thn (ha pins s σ H _ I h) fun u s1 ⟨x, H1, I1, r1, q1⟩ => ?_)
 exact thn (hr pos pins s1 σ H1 _ I1 q1) fun us s2 ⟨xs, H2, I2, r2, q2⟩ => ⟨x :: xs, H2, I2, .cons r1 r2, q2⟩
def tTup (t : TA) : TE := fun σ H Q => t σ H fun xs H1 => xs.length ≤ sizeLine ∧ ∀ p, H1 p = none → Q (.ref p) (upd H1 p (.tup xs))
def tLst (t : TA) : TE := fun σ H Q => t σ H fun xs H1 => xs.length ≤ sizeLine ∧ ∀ p, H1 p = none → Q (.ref p) (upd H1 p (.lst xs))
theorem zapx {x1} (h : PA X es t) : PE X (.Tuple es x1 pos) (tTup t) := by
 intro pins s σ H Q I hq
 refine wpAny_Tuple_spliced (thn (h pos pins s σ H _ I hq) fun us s1 ⟨xs, H1, I1, r, z, q⟩ => ⟨by rw [← r.length]; exact z, ?_⟩)
 have hf : H1 s1.heap.objs.size = none := I1.hok.fresh (Nat.le_refl _)
 refine ⟨.ref s1.heap.objs.size, upd H1 s1.heap.objs.size (.tup xs), I1.laid (t' := s1.toks) (fun b u e => Heap.get?_push_of_some _ e) (Nat.le_refl _) ?_, rfl, q _ hf⟩
 exact ⟨z, us, r, ⟨_, Heap.get?_push_size _ rfl, rfl, _, rfl⟩⟩
theorem zapy (h : PA X es t) : PE X (.List es pos) (tLst t) := by
 intro pins s σ H Q I hq
 refine wpAny_List_spliced (thn (h pos pins s σ H _ I hq) fun us s1 ⟨xs, H1, I1, r, z, q⟩ => ⟨by rw [← r.length]; exact z, ?_⟩)
 have hf : H1 s1.heap.objs.size = none := I1.hok.fresh (Nat.le_refl _)
 refine ⟨.ref s1.heap.objs.size, upd H1 s1.heap.objs.size (.lst xs), I1.laid (t' := s1.toks) (fun b u e => Heap.get?_push_of_some _ e) (Nat.le_refl _) ?_, rfl, q _ hf⟩
 exact ⟨z, us, 0, r, Heap.get?_push_size _ rfl⟩
end
abbrev Sp := List V → Hp → VK → XK → Prop
abbrev CXT := List Env → Hp → Shared → XK → Value → Shared → Prop
structure Env0 (P : Program) (w : World) (K : PySem.W.Frag) (mg : Str → Option Value) (base : Heap) (A : Around) (outer : List Env) (s : Shared) (H : Hp) : Prop where
 frames : A.frames = some outer
 mod : Mod K mg base
 bs : ∀ b o, base.get? b = some o → s.heap.get? b = some o ∧ H b = none
 bsz : base.objs.size ≤ s.heap.objs.size
 funs : s.heap.FunFrames base outer
 frf : ∀ b ∈ frs outer, H b = none
 hok : HOk P w H s.heap
 bare : AllBare s.gens
def CE (outer : List Env) (P : Program) (w : World) (H : Hp) (s : Shared) (Q : VK) (u : Value) (s' : Shared) : Prop :=
 ∃ v H', s'.os = s.os ∧ AllBare s'.gens ∧ Un (frs outer) [] H H' s.heap s'.heap ∧ HOk P w H' s'.heap ∧ RelV v u ∧ Q v H'
def CR (CX : CXT) (outer : List Env) (P : Program) (w : World) (H : Hp) (s : Shared) (Q : VK) (E : XK) (r : Result) (s' : Shared) : Prop :=
 match r with
 | .ok (.ret u) => CE outer P w H s Q u s'
 | .ok _ => False
 | .error e => CX outer H s E e s'
structure FnOk (P : Program) (w : World) (K : PySem.W.Frag) (mg : Str → Option Value) (base : Heap) (CX : CXT) (k : Nat) (f : Addr) (fd : FuncData) (ps : List Str) (sp : Sp) : Prop where
 len : ∀ vs H Q E, sp vs H Q E → vs.length = ps.length
 run : ∀ (A : Around) (outer : List Env) (s : Shared) (H : Hp) (args : Args) (us : List Value) (vs : List V) (Q : VK) (E : XK), Room k A → Env0 P w K mg base A outer s H → BindsTo s fd args (ps.zip us) → Vals vs us → sp vs H Q E →
  codeAny (model P w) A (.call (.ref f) args) (CR CX outer P w H s Q E) s
theorem FnOk.mono {P : Program} {w : World} {K : PySem.W.Frag} {mg : Str → Option Value} {base : Heap} {CX : CXT} {j k : Nat} {f : Addr} {fd : FuncData} {ps : List Str} {sp : Sp} (F : FnOk P w K mg base CX j f fd ps sp) (h : j ≤ k) :
  FnOk P w K mg base CX k f fd ps sp := ⟨F.len, fun A outer s H args us vs Q E hr => F.run A outer s H args us vs Q E (hr.mono h)⟩
theorem Env0.make {P : Program} {w : World} {K : PySem.W.Frag} {mg : Str → Option Value} {base : Heap} {A : Around} {outer : List Env} {s : Shared} {H : Hp} (e : Env0 P w K mg base A outer s H) (C : Addr) (us : List Value) (kw : List (Str × Value)) :
  Env0 P w K mg base (A.under (.builtin "type.__call__" ⟨.ref C :: us, kw⟩)) outer s H := ⟨by first | exact e.frames | (simpa [Around.under, Code.envs, Code.isFrame, pushEnvs] using e.frames), e.mod, e.bs, e.bsz, e.funs, e.frf, e.hok, e.bare⟩
section
variable {X : Cx} {pins : List (Addr × Obj)} {σ : St} {H : Hp} {s s' : Shared}
theorem Inv.env0 (I : Inv X pins σ H s) : Env0 X.prog X.w X.K X.mg X.base X.A X.stack s H :=
 ⟨I.ok.frames, I.ok.mod, I.bs, Nat.le_trans I.ok.bsz I.sz, I.stack, I.stkFree, I.hok, I.bare⟩
theorem Inv.after {Q : VK} {u : Value} (I : Inv X pins σ H s) (h : CE X.stack X.prog X.w H s Q u s') : EP X pins σ Q u s' := by
 obtain ⟨v, H', os, bare, un, hok, r, q⟩ := h
 obtain ⟨hh, g, d, t, os'⟩ := s'
 obtain rfl : os' = s.os := os
 exact ⟨v, H', I.call (h' := hh) (g' := g) (d' := d) (t' := t) (ch := []) un hok bare (fun b z => absurd z (by simp)), r, q⟩
end
def tCall (sp : Sp) (dvs : List V) (E : XK) (t : TA) : TE := fun σ H Q => t σ H fun vs H1 => sp (vs ++ dvs) H1 Q E
def tMeth (C : Addr) (m : Str) (sp : Sp) (dvs : List V) (E : XK) (ta : TE) (t : TA) : TE := fun σ H Q => ta σ H fun x H1 => ∃ a dx fs, x = .ref a ∧ H1 a = some (.ins C dx fs) ∧ fs.lookup m = none ∧
 t σ H1 fun vs H2 => sp (x :: (vs ++ dvs)) H2 Q E
def tMake (C : Addr) (sp : Sp) (dvs : List V) (E : XK) (t : TA) : TE := fun σ H Q => t σ H fun vs H1 => ∀ x dx, H1 x = none → H1 dx = none → dx ≠ x →
 sp (.ref x :: (vs ++ dvs)) (upd (upd H1 dx (.own x)) x (.ins C dx [])) (fun v H2 => v = .non ∧ Q (.ref x) H2) E
def Binds (K : PySem.W.Frag) (fd : FuncData) (ps : List Str) (ds : List Value) : Prop :=
 ∀ (s : Shared) (us : List Value), K.In s.heap → (us ++ ds).length = ps.length → BindsTo s fd ⟨us, []⟩ (ps.zip (us ++ ds))
theorem Binds.all {K : PySem.W.Frag} {fd : FuncData} {ps : List Str} (h : ∀ us : List Value, us.length = ps.length → bindArgs fd ⟨us, []⟩ = pure (ps.zip us)) : Binds K fd ps [] := fun s us _ hl => by
 rw [List.append_nil] at hl ⊢
 exact .of_eq (h us hl)
def Passes (CX : CXT) (X : Cx) (E : XK) : Prop := ∀ (pins : List (Addr × Obj)) (σ : St) (H : Hp) (s : Shared) (e : Value) (s' : Shared), Inv X pins σ H s → CX X.stack H s E e s' → X.xe e s'
section
variable {X : Cx} {CX : CXT} {k : Nat} {f C : Addr} {fd : FuncData} {ps : List Str} {sp : Sp} {dvs : List V} {ds : List Value} {E : XK} {x m : Str} {p pos apos : Pos} {e o : Expr} {es : List Expr} {ta : TE} {t : TA}
theorem zamv {pins : List (Addr × Obj)} {σ : St} {H : Hp} {s : Shared} {Q : VK} {us : List Value} {vs : List V} (F : FnOk X.prog X.w X.K X.mg X.base CX k f fd ps sp) (hr : Room k X.A) (hb : Binds X.K fd ps ds) (hd : Vals dvs ds) (hx : Passes CX X E)
  (I : Inv X pins σ H s) (r : Vals vs us) (h : sp (vs ++ dvs) H Q E) : wpAny (model X.prog X.w) X.A (call (.ref f) us) (EP X pins σ Q) X.xe s := by
 have r2 : Vals (vs ++ dvs) (us ++ ds) := r.append hd
 have hl : (us ++ ds).length = ps.length := by rw [← r2.length]; exact F.len _ _ _ _ h
 refine wpAny_call (codeAny_mono (F.run X.A X.stack s H ⟨us, []⟩ (us ++ ds) (vs ++ dvs) Q E hr I.env0 (hb s us I.kIn hl) r2 h) fun r s' hq => ?_)
 cases r with
 | error e => exact hx pins σ H s e s' I hq
 | ok fl =>
  cases fl with
  | ret u => exact I.after hq
  | next => exact False.elim hq
  | brk => exact False.elim hq
  | cont => exact False.elim hq
theorem zanr (F : FnOk X.prog X.w X.K X.mg X.base CX k f fd ps sp) (hr : Room k X.A) (hg : Gl X x) (hm : X.mg x = some (.ref f)) (hk : PySem.W.keepIn X.K (.ref f) = true) (hb : Binds X.K fd ps ds) (hd : Vals dvs ds) (hx : Passes CX X E)
  (ha : PA X (e :: es) t) (hdb : (x == ("__debug__" : Str)) = false := by decide) (he : starEach (e :: es) X.env = (false, eval e X.env) :: starEach es X.env := by rfl) (hpl : (backTo pos (starEach es X.env)).any (·.1) = false := by rfl) :
  PE X (.Call (.Name x p) (e :: es) [] pos) (tCall sp dvs E t) := by
 intro pins s σ H Q I h
 refine wpAny_Call_Name_kw (zaef I hg hm ?_ hdb)
 refine PySem.W.callWith_K (h₀ := X.base) I.ok.mod.kin hk (thn (ha pos pins s σ H _ I h) fun us s1 ⟨vs, H1, I1, r, q⟩ => ⟨I1.kIn, ?_⟩) he hpl
 exact zamv F hr hb hd hx I1 r q
structure Mk (K : PySem.W.Frag) (C f : Addr) : Prop where
 makes : PySem.W.makesIn K C = true
 init : PySem.W.findIn K (.ref C) "__init__" = some (some (.ref f))
 fn : PySem.W.isFn K (.ref f) = true
 kp : PySem.W.keepIn K (.ref C) = true
theorem zalq {pins : List (Addr × Obj)} {σ : St} {H : Hp} {s : Shared} {Q : VK} {us : List Value} {vs : List V} (M : Mk X.K C f) (F : FnOk X.prog X.w X.K X.mg X.base CX k f fd ps sp) (hr : Room (k + 1) X.A) (hb : Binds X.K fd ps ds) (hd : Vals dvs ds)
  (hx : Passes CX X E) (I : Inv X pins σ H s) (r : Vals vs us)
  (h : ∀ x dx, H x = none → H dx = none → dx ≠ x → sp (.ref x :: (vs ++ dvs)) (upd (upd H dx (.own x)) x (.ins C dx [])) (fun v H2 => v = .non ∧ Q (.ref x) H2) E) :
  wpAny (model X.prog X.w) X.A (call (.ref C) us) (EP X pins σ Q) X.xe s := by
 have hq := h (s.heap.objs.size + 1) s.heap.objs.size (I.hok.fresh (Nat.le_succ _)) (I.hok.fresh (Nat.le_refl _)) (Nat.ne_of_lt (Nat.lt_succ_self _))
 have I2 := Inv.made (C := C) I
 have r2 : Vals (V.ref (s.heap.objs.size + 1) :: (vs ++ dvs)) (Value.ref (s.heap.objs.size + 1) :: (us ++ ds)) := .cons rfl (r.append hd)
 have hl : (Value.ref (s.heap.objs.size + 1) :: us ++ ds).length = ps.length := by
  have e := r2.length
  rw [F.len _ _ _ _ hq] at e
  exact e.symm
 refine wpAny_call (zalp (f := f) I.kIn M.makes M.init (beq_iff_eq.mp M.fn) (codeAny_mono (F.run _ X.stack _ _ ⟨Value.ref (s.heap.objs.size + 1) :: us, []⟩ (Value.ref (s.heap.objs.size + 1) :: (us ++ ds)) _ _ E (hr.make C us [])
  (I2.env0.make C us []) (hb _ (Value.ref (s.heap.objs.size + 1) :: us) I2.kIn hl) r2 hq) fun r s' hq' => ?_))
 cases r with
 | error e => exact hx pins σ _ _ e s' I2 hq'
 | ok fl =>
  cases fl with
  | ret u =>
   obtain ⟨v, H', I3, rv, ev, q3⟩ := I2.after hq'
   subst ev
   exact ⟨rv, ⟨V.ref (s.heap.objs.size + 1), H', I3, rfl, q3⟩⟩
  | next => exact False.elim hq'
  | brk => exact False.elim hq'
  | cont => exact False.elim hq'
theorem zans (M : Mk X.K C f) (F : FnOk X.prog X.w X.K X.mg X.base CX k f fd ps sp) (hr : Room (k + 1) X.A) (hg : Gl X x) (hm : X.mg x = some (.ref C)) (hb : Binds X.K fd ps ds) (hd : Vals dvs ds) (hx : Passes CX X E)
  (ha : PA X (e :: es) t) (hdb : (x == ("__debug__" : Str)) = false := by decide) (he : starEach (e :: es) X.env = (false, eval e X.env) :: starEach es X.env := by rfl) (hpl : (backTo pos (starEach es X.env)).any (·.1) = false := by rfl) :
  PE X (.Call (.Name x p) (e :: es) [] pos) (tMake C sp dvs E t) := by
 intro pins s σ H Q I h
 refine wpAny_Call_Name_kw (zaef I hg hm ?_ hdb)
 refine PySem.W.callWith_K (h₀ := X.base) I.ok.mod.kin M.kp (thn (ha pos pins s σ H _ I h) fun us s1 ⟨vs, H1, I1, r, q⟩ => ⟨I1.kIn, ?_⟩) he hpl
 exact zalq M F hr hb hd hx I1 r q
end
def PK (X : Cx) (kws : List Keyword) (t : TA) : Prop :=
 ∀ (pos : Pos) (pins : List (Addr × Obj)) (s : Shared) (σ : St) (H : Hp) (Q : List V → Hp → Prop), Inv X pins σ H s → t σ H Q → wpAny (model X.prog X.w) X.A (evalAll ((backToKw pos (keywordEach kws X.env)).map (·.2))) (AP X pins σ Q) X.xe s
section
variable {X : Cx} {CX : CXT} {k : Nat} {f C : Addr} {fd : FuncData} {ps ks : List Str} {sp : Sp} {E : XK} {x m : Str} {p pos apos kpos : Pos} {e o : Expr} {es : List Expr} {kws : List Keyword} {te ta : TE} {t tk : TA} {nm : Option Str}
structure KBinds (K : PySem.W.Frag) (fd : FuncData) (ps ks : List Str) (g : List Value → List Value → List Value) (gV : List V → List V → List V) : Prop where
 to : ∀ (s : Shared) (us ws : List Value), K.In s.heap → (g us ws).length = ps.length → BindsTo s fd ⟨us, ks.zip ws⟩ (ps.zip (g us ws))
 rel : ∀ {vs : List V} {us : List Value} {zs : List V} {ws : List Value}, Vals vs us → Vals zs ws → Vals (gV vs zs) (g us ws)
def tCallK (sp : Sp) (gV : List V → List V → List V) (E : XK) (t tk : TA) : TE := fun σ H Q => t σ H fun vs H1 => tk σ H1 fun zs H2 => sp (gV vs zs) H2 Q E
variable {g : List Value → List Value → List Value} {gV : List V → List V → List V}
end
structure FnScope (N P : List Str) (sc : Scope) : Prop where
 kind : sc.kind = .function
 co : sc.isCoroutine = false
 gen : sc.isGenerator = false
 nd : N.Nodup
 pre : N.take P.length = P
 par : ∀ x ∈ P, sc.names.lookup x = some .local ∨ sc.names.lookup x = some .cell
 nofree : ∀ y ∈ sc.names, y.2 ≠ .free
theorem zahi {kindOf : Str → Option NameKind} {x : Str} : ∀ {binds : List (Str × Value)} {m : Str → Option Value}, (∀ v, (x, v) ∉ binds) → bindL kindOf binds m x = m x
 | [], _, _ => rfl
 | (n, v) :: r, m, h => by
  unfold bindL
  rw [zahi fun w hw => h w (List.mem_cons_of_mem _ hw)]
  split
  ·have : x ≠ n := by rintro rfl; exact h v List.mem_cons_self
   simp [this]
  ·rfl
theorem zahj {kindOf : Str → Option NameKind} {x : Str} : ∀ {binds : List (Str × Value)} {m : Str → Option Value}, (∀ v, (x, v) ∉ binds) → bindC kindOf binds m x = m x
 | [], _, _ => rfl
 | (n, v) :: r, m, h => by
  unfold bindC
  rw [zahj fun w hw => h w (List.mem_cons_of_mem _ hw)]
  split
  ·rfl
  ·have : x ≠ n := by rintro rfl; exact h v List.mem_cons_self
   simp [this]
theorem zahk {kindOf : Str → Option NameKind} {x : Str} {v : Value} : ∀ {P : List Str} {vs : List Value} {i : Nat} {m : Str → Option Value}, P.Nodup → P[i]? = some x → vs[i]? = some v → kindOf x = some .local →
  bindL kindOf (P.zip vs) m x = some v
 | [], _, _, _, _, h, _, _ => by simp at h
 | _ :: _, [], _, _, _, _, h, _ => by simp at h
 | p :: P, w :: vs, 0, m, nd, h1, h2, hk => by
  simp at h1 h2; subst h1; subst h2
  show bindL kindOf ((p, w) :: P.zip vs) m p = _
  unfold bindL
  rw [zahi fun v hv => (List.nodup_cons.mp nd).1 (List.of_mem_zip hv).1, if_pos hk]
  simp
 | p :: P, w :: vs, i + 1, m, nd, h1, h2, hk => by
  show bindL kindOf ((p, w) :: P.zip vs) m x = _
  unfold bindL
  exact zahk (i := i) (List.nodup_cons.mp nd).2 (by simpa using h1) (by simpa using h2) hk
theorem zahl {kindOf : Str → Option NameKind} {x : Str} {v : Value} : ∀ {P : List Str} {vs : List Value} {i : Nat} {m : Str → Option Value}, P.Nodup → P[i]? = some x → vs[i]? = some v → kindOf x ≠ some .local →
  bindC kindOf (P.zip vs) m x = some v
 | [], _, _, _, _, h, _, _ => by simp at h
 | _ :: _, [], _, _, _, _, h, _ => by simp at h
 | p :: P, w :: vs, 0, m, nd, h1, h2, hk => by
  simp at h1 h2; subst h1; subst h2
  show bindC kindOf ((p, w) :: P.zip vs) m p = _
  unfold bindC
  rw [zahj fun v hv => (List.nodup_cons.mp nd).1 (List.of_mem_zip hv).1, if_neg hk]
  simp
 | p :: P, w :: vs, i + 1, m, nd, h1, h2, hk => by
  show bindC kindOf ((p, w) :: P.zip vs) m x = _
  unfold bindC
  exact zahl (i := i) (List.nodup_cons.mp nd).2 (by simpa using h1) (by simpa using h2) hk
def start (N : List Str) (vs : List V) : St := vs.map some ++ List.replicate (N.length - vs.length) none
def cxOf (CX : CXT) (P : Program) (w : World) (K : PySem.W.Frag) (mg : Str → Option Value) (base : Heap) (N : List Str) (qual : Str) (scope : Scope) (f : Addr) (cd : Value) (A : Around) (outer : List Env) (s : Shared) (H : Hp) (E : XK) : Cx where
 prog := P
 w := w
 K := K
 mg := mg
 base := base
 A := A.deeper (envOfC qual scope s.heap.objs.size f cd)
 N := N
 s₀ := s
 H₀ := H
 env := envOfC qual scope s.heap.objs.size f cd
 outer := outer
 stack := envOfC qual scope s.heap.objs.size f cd :: outer
 ex := []
 calm := true
 fn := fun _ => true
 pn := []
 xe := fun e s' => wpAny (model P w) (A.deeper (envOfC qual scope s.heap.objs.size f cd)) (leaving (envOfC qual scope s.heap.objs.size f cd) e) (fun _ s'' => CX outer H s E e s'') (fun e' s'' => CX outer H s E e' s'') s'
theorem zair {sc : Scope} {n : Nat} {x : Str} (h : sc.names.lookup x = some .cell) : ∃ c, (cellsFrom n sc.names []).lookup x = some c := by
 have q := PySem.W.cellsFrom_some sc.names n [] (.inl h)
 exact Option.isSome_iff_exists.mp q
theorem zaj7 {CX : CXT} {P : Program} {w : World} {K : PySem.W.Frag} {mg : Str → Option Value} {base : Heap} {N ps : List Str} {qual : Str} {scope : Scope} {f : Addr} {cd : Value} {A : Around} {outer : List Env} {s s1 : Shared} {H : Hp} {E : XK} {us : List Value} {vs : List V}
  (S : FnScope N ps scope) (hd : A.handled = none) (e0 : Env0 P w K mg base A outer s H) (hl : vs.length = ps.length) (r : Vals vs us)
  (x : InCallC s s.heap.objs.size (bindL (envOfC qual scope s.heap.objs.size f cd).kindOf (ps.zip us) fun _ => none) (cellsFrom (s.heap.objs.size + 1) scope.names []) (bindC (envOfC qual scope s.heap.objs.size f cd).kindOf (ps.zip us) fun _ => none) s1) :
  Inv (cxOf CX P w K mg base N qual scope f cd A outer s H E) [] (start N vs) H s1 := by
 have hpl : ps.length ≤ N.length := by have := congrArg List.length S.pre; rw [List.length_take] at this; omega
 obtain ⟨h1, tk, rfl, hk⟩ := x.done
 have noA : ∀ b : Addr, b ∉ (cxOf CX P w K mg base N qual scope f cd A outer s H E).ex := fun b z => absurd (show b ∈ ([] : List Addr) from z) (by simp)
 refine ⟨⟨e0.mod, S.kind, rfl, rfl, Nat.le_refl _, fun y z c h1 h2 => ?_, fun y hy => ?_, fun y c _ h => ?_, fun _ => hd, Around.frames_deeper e0.frames, .inr ⟨rfl, rfl⟩, fun b z => absurd z (noA b), e0.bs, e0.bsz, fun b _ _ => noA b, fun b z => absurd z (noA b), e0.funs, e0.frf⟩,
  rfl, e0.bare, Un.kept hk, ⟨_, x.toInCall.ns, fun i y v h1 h2 h3 => ?_⟩, fun y c h => ⟨_, x.cell y c h⟩, e0.hok.fresh (Nat.le_refl _), fun y c h => ?_, fun p hp => absurd (show p ∈ ([] : List (Addr × Obj)) from hp) (by simp), e0.hok.kept hk, ?_⟩
 ·exact name_of_addr x.apart (PySem.mem_of_lookup h1) (PySem.mem_of_lookup h2)
 ·have hy : scope.names.lookup y = some .cell ∨ scope.names.lookup y = some .free := hy
  rcases hy with hy | hy
  ·exact zair hy
  ·exact absurd rfl (S.nofree _ (PySem.mem_of_lookup hy))
 ·exact Nat.le_of_lt (x.above y c (PySem.mem_of_lookup h))
 ·have hi : i < vs.length := by
   unfold start at h2
   by_cases hi : i < vs.length
   ·exact hi
   ·rw [List.getElem?_append_right (by simpa using hi)] at h2
    rw [List.getElem?_replicate] at h2
    split at h2 <;> cases h2
  have ha : vs[i]? = some v := by
   unfold start at h2
   rw [List.getElem?_append_left (by simpa using hi), List.getElem?_map] at h2
   cases e : vs[i]? with
   | none => rw [e] at h2; cases h2
   | some a => rw [e] at h2; cases h2; rfl
  obtain ⟨u, hu, rv⟩ := r.get ha
  have hp : ps[i]? = some y := by
   rw [← S.pre, List.getElem?_take_of_lt (by omega)]; exact h1
  have ndP : ps.Nodup := by rw [← S.pre]; exact S.nd.sublist (List.take_sublist _ _)
  refine ⟨u, rv, ?_⟩
  rcases S.par y (List.mem_of_getElem? hp) with k | k
  ·exact .inl ⟨k, zahk ndP hp hu k⟩
  ·obtain ⟨c, e⟩ := zair (n := s.heap.objs.size + 1) k
   refine .inr ⟨.inl k, c, e, ?_⟩
   have q := x.cell y c e
   rw [zahl ndP hp hu (by show scope.names.lookup y ≠ _; rw [k]; decide)] at q
   exact q
 ·exact e0.hok.fresh (Nat.le_of_lt (x.above y c (PySem.mem_of_lookup h)))
 ·unfold start
  show _ = N.length
  rw [List.length_append, List.length_map, List.length_replicate]
  omega
theorem zapz {CX : CXT} {P : Program} {w : World} {K : PySem.W.Frag} {mg : Str → Option Value} {base : Heap} {k : Nat} {f : Addr} {name qual : Str} {params : Arguments} {body : List Stmt} {scope : Scope} {dV kV doc pm cdv ct oc : Value} {an od : Option Addr}
  {osl : Array (Option Value)} {N ps : List Str} {sp : Sp} (lk : K.lookup f = some ⟨oc, od, .func (PySem.W.fnOf name qual params body scope dV kV doc pm an cdv ct), osl⟩) (hcd : PySem.W.codeIn K cdv qual = true) (S : FnScope N ps scope)
  (len : ∀ vs H Q E, sp vs H Q E → vs.length = ps.length)
  (hbody : ∀ (A : Around) (outer : List Env) (s : Shared) (H : Hp) (vs : List V) (Q : VK) (E : XK), Room k (A.deeper (envOfC qual scope s.heap.objs.size f cdv)) → sp vs H Q E →
   ∃ t, PSs (cxOf CX P w K mg base N qual scope f cdv A outer s H E) body t ∧ t { nx := fun _ H' => Q .non H', rt := Q } (start N vs) H) :
  FnOk P w K mg base CX (k + 1) f (PySem.W.fnOf name qual params body scope dV kV doc pm an cdv ct) ps sp := by
 refine ⟨len, fun A outer s H args us vs Q E hr e0 hb r hsp => ?_⟩
 have hl := len _ _ _ _ hsp
 have KX : K.In s.heap := e0.mod.kin.keeps fun b o e => (e0.bs b o e).1
 have lim : s.heap.NoLimit := e0.mod.nolimit.keeps fun b o e => (e0.bs b o e).1
 have hkind : ∀ y ∈ ps.zip us, scope.names.lookup y.1 = some .local ∨ (scope.names.lookup y.1 = some .cell ∧ ((cellsFrom (s.heap.objs.size + 1) scope.names []).lookup y.1).isSome = true) := fun ⟨n, v⟩ hy => by
  rcases S.par n (List.of_mem_zip hy).1 with q | q
  ·exact .inl q
  ·exact .inr ⟨q, PySem.W.cellsFrom_some _ _ _ (.inl q)⟩
 refine codeAny_call_function hr.depth (KX _ _ lk) rfl S.co S.gen rfl (PySem.W.codeRec_of KX hcd) (hb _ _ _ _ ?_)
 refine wpAny_newFunctionEnv_cells S.kind hkind fun env he s1 x => ?_
 subst he
 refine ⟨lim.keeps x.toInCall.keep, codeAny_func ?_⟩
 obtain ⟨t, ht, hq⟩ := hbody A outer s H vs Q E (hr.deeper _) hsp
 have I : Inv (cxOf CX P w K mg base N qual scope f cdv A outer s H E) [] (start N vs) H s1 := zaj7 S hr.hd e0 hl r x
 refine wpAny_mono (ht [] s1 (start N vs) H _ I hq) (fun fl s' hs => ?_) fun e s' hs => hs
 have fin : ∀ {σ' : St} {H' : Hp} {v : V} {u : Value}, Inv (cxOf CX P w K mg base N qual scope f cdv A outer s H E) [] σ' H' s' → RelV v u → Q v H' → CE outer P w H s Q u s' :=
  fun {σ' H' v u} J rv q => ⟨v, H', J.os, J.bare, J.base, J.hok, rv, q⟩
 cases fl with
 | ret u =>
  obtain ⟨v, σ', H', J, rv, q⟩ := hs
  exact fin J rv q
 | next =>
  obtain ⟨σ', H', J, q⟩ := hs
  exact fin (v := V.non) (u := Value.none) J rfl q
 | brk =>
  obtain ⟨_, _, _, q⟩ := hs
  exact False.elim q
 | cont =>
  obtain ⟨_, _, _, q⟩ := hs
  exact False.elim q
section
variable {X : Cx} {x : Str} {p pos : Pos} {e : Expr} {es : List Expr} {t : TA} {id T : String} {r : List V → Hp → VK → Prop}
def tCB (r : List V → Hp → VK → Prop) (t : TA) : TE := fun σ H Q => t σ H fun vs H1 => r vs H1 Q
theorem zalr (hc : CallR X (.builtin id) r) (hg : Gl X x) (hm : X.mg x = none) (hv : bootBuiltins x = some (.builtin id)) (ha : PA X (e :: es) t) (hn : x ≠ "__name__" := by decide) (hdb : (x == ("__debug__" : Str)) = false := by decide)
  (he : starEach (e :: es) X.env = (false, eval e X.env) :: starEach es X.env := by rfl) (hpl : (backTo pos (starEach es X.env)).any (·.1) = false := by rfl) : PE X (.Call (.Name x p) (e :: es) [] pos) (tCB r t) := by
 intro pins s σ H Q I h
 refine wpAny_Call_Name_kw (zaf3 I hg hm hv ?_ hn hdb)
 exact PyProof.Rows.callWith_builtin1 (thn (ha pos pins s σ H _ I h) fun us s1 ⟨vs, H1, I1, r1, q1⟩ => hc pins s1 σ H1 vs us Q I1 r1 q1) he hpl
theorem zaj8 (hc : CallR X (.type T) r) (hg : Gl X x) (hm : X.mg x = none) (hv : bootBuiltins x = some (.type T)) (ha : PA X (e :: es) t) (hn : x ≠ "__name__" := by decide) (hdb : (x == ("__debug__" : Str)) = false := by decide)
  (he : starEach (e :: es) X.env = (false, eval e X.env) :: starEach es X.env := by rfl) (hpl : (backTo pos (starEach es X.env)).any (·.1) = false := by rfl) : PE X (.Call (.Name x p) (e :: es) [] pos) (tCB r t) := by
 intro pins s σ H Q I h
 refine wpAny_Call_Name_kw (zaf3 I hg hm hv ?_ hn hdb)
 exact PyProof.Rows.callWith_type1 (thn (ha pos pins s σ H _ I h) fun us s1 ⟨vs, H1, I1, r1, q1⟩ => hc pins s1 σ H1 vs us Q I1 r1 q1) he hpl
end
end L2
namespace HT
open PySem PyProof.Rows
def lexLt : List Int → List Int → Bool
 | [], [] => false
 | [], _ :: _ => true
 | _ :: _, [] => false
 | x :: xs, y :: ys => if x = y then lexLt xs ys else decide (x < y)
section
open PySem.SeqAt
open PySem.AutoSeq1 (wpAny_loadPart')
open PySem.MeetsSeq PySem.MeetsSeq2 PySem.MeetsSeq3
end
section
variable {prog : Program} {w : World} {A : Around} {E : Value → Shared → Prop} {s : Shared}
def sIx (n d : Nat) : Option Int → Nat
 | none => d
 | some v => if v < 0 then (v + (n : Int)).toNat else min v.toNat n
theorem sIx_nat (n d k : Nat) : sIx n d (some (k : Int)) = min k n := by
 show (if (k : Int) < 0 then ((k : Int) + (n : Int)).toNat else min (k : Int).toNat n) = min k n
 rw [if_neg (by omega), Int.toNat_natCast]
theorem zap0 (n d : Nat) (hd : d ≤ n) (o : Option Int) : sIx n d o ≤ n := by
 cases o with
 | none => exact hd
 | some v =>
  show (if v < 0 then (v + (n : Int)).toNat else min v.toNat n) ≤ n
  by_cases hv : v < 0
  ·rw [if_pos hv]; omega
  ·rw [if_neg hv]; exact Nat.min_le_right _ _
theorem zaj9 (v : Int) (n d : Nat) : (if v < 0 then max (v + (n : Int)) 0 else min v (n : Int)) = ((sIx n d (some v) : Nat) : Int) := by
 show (if v < 0 then max (v + (n : Int)) 0 else min v (n : Int)) = (((if v < 0 then (v + (n : Int)).toNat else min v.toNat n) : Nat) : Int)
 by_cases hv : v < 0
 ·simp only [if_pos hv]; omega
 ·simp only [if_neg hv]; omega
theorem zajj (lo hi : Option Int) (n : Nat) : Builtin.Slice.sliceAdjust lo hi 1 (n : Int) = (((sIx n 0 lo : Nat) : Int), ((sIx n n hi : Nat) : Int)) := by
 have h1 : ¬ ((1 : Int) < 0) := by omega
 unfold Builtin.Slice.sliceAdjust
 simp only [h1, if_false]
 refine Prod.ext ?_ ?_
 ·cases lo with
  | none => rfl
  | some v => exact zaj9 v n 0
 ·cases hi with
  | none => rfl
  | some v => exact zaj9 v n n
theorem zajk (i j : Nat) : Builtin.Slice.slicePlaces (i : Int) (j : Int) 1 = j - i := by
 unfold Builtin.Slice.slicePlaces
 have h1 : (1 : Int) > 0 := by omega
 simp only [h1, if_true, Int.ediv_one]
 split <;> omega
theorem zaf4 {v : Value} {o : Option Int} {Q : Option Int → Shared → Prop} (p : IsPart v o) (h : Q o s) : wpAny (model prog w) A (Builtin.Slice.slicePartIndex v) Q E s := by
 cases p with
 | none => exact slicePart_none h
 | int i t => exact slicePart_int h
theorem zae4 {sl : Addr} {vl vu : Value} {lo hi : Option Int} {n : Nat} {Q : Int × Int × Nat → Shared → Prop} (hs : s.heap.IsSliceOf sl vl vu .none) (pl : IsPart vl lo) (pu : IsPart vu hi)
  (h : Q (((sIx n 0 lo : Nat) : Int), 1, sIx n n hi - sIx n 0 lo) s) : wpAny (model prog w) A (Builtin.Slice.sliceApplied (.ref sl) (pure (n : Int))) Q E s := by
 obtain ⟨os, hos, hcs, hds⟩ := id hs
 unfold Builtin.Slice.sliceApplied Builtin.Slice.sliceFields
 refine wpAny_bind (wpAny_bind (wpAny_field hos hds (x := vl) rfl (wpAny_bind (wpAny_field hos hds (x := vu) rfl (wpAny_bind (wpAny_field hos hds (x := .none) rfl (wpAny_pure ?_)))))))
 refine wpAny_bind (slicePart_none ?_)
 show wpAny _ _ (if ((1 : Int) == 0) = true then _ else _) _ _ s
 rw [if_neg (by decide)]
 refine wpAny_bind (zaf4 pl (wpAny_bind (zaf4 pu (wpAny_bind (wpAny_pure ?_)))))
 show wpAny _ _ (match Builtin.Slice.sliceAdjust lo hi 1 (n : Int) with | (lo, hi) => pure (lo, (1 : Int), Builtin.Slice.slicePlaces lo hi 1)) _ _ s
 rw [zajj lo hi n]
 show wpAny _ _ (pure (((sIx n 0 lo : Nat) : Int), (1 : Int), Builtin.Slice.slicePlaces ((sIx n 0 lo : Nat) : Int) ((sIx n n hi : Nat) : Int) 1)) _ _ s
 rw [zajk]
 exact wpAny_pure h
theorem zals (xs : Array Value) (i k : Nat) : ((List.range k).filterMap fun (m : Nat) => xs[((i : Int) + (m : Int) * 1).toNat]?).toArray = ((xs.toList.drop i).take k).toArray := by
 have e : (fun (m : Nat) => xs[((i : Int) + (m : Int) * 1).toNat]?) = fun m => xs[i + m]? := by
  funext m
  have : ((i : Int) + (m : Int) * 1).toNat = i + m := by omega
  rw [this]
 rw [e]
 have := pick_run xs i k
 rw [List.filterMap_map] at this
 have e2 : ((fun x => xs[x]?) ∘ fun x => i + x) = fun m => xs[i + m]? := rfl
 rw [e2] at this
 rw [this]
theorem getItem_tuple_cut {t sl : Addr} {items : Array Value} {vl vu : Value} {lo hi : Option Int} {Q : Value → Shared → Prop} (ht : IsTup s.heap t items) (hs : s.heap.IsSliceOf sl vl vu .none) (pl : IsPart vl lo) (pu : IsPart vu hi)
  (hw : ¬ (sIx items.size 0 lo = 0 ∧ sIx items.size items.size hi = items.size))
  (h : Q (.ref s.heap.objs.size) { s with heap := s.heap.push { cls := .type "tuple", data := .seq ((items.toList.drop (sIx items.size 0 lo)).take (sIx items.size items.size hi - sIx items.size 0 lo)).toArray } })
  (hsz : items.size ≤ sizeLine) : wpAny (model prog w) A (getItem (.ref t) (.ref sl)) Q E s := by
 have htake : sizeOk (.seq ((items.toList.drop (sIx items.size 0 lo)).take (sIx items.size items.size hi - sIx items.size 0 lo)).toArray) := by
  show ((items.toList.drop (sIx items.size 0 lo)).take (sIx items.size items.size hi - sIx items.size 0 lo)).toArray.size ≤ sizeLine
  rw [List.size_toArray, List.length_take, List.length_drop, Array.length_toList]
  omega
 have hj : sIx items.size items.size hi ≤ items.size := zap0 _ _ (Nat.le_refl _) hi
 obtain ⟨os, hos, hcs, hds⟩ := id hs
 have hTs : s.TypeIs (.ref sl) "slice" := ⟨os, hos, hcs⟩
 unfold getItem
 try with_reducible refine wpAny_holding ?_
 first | refine wpAny_bind (wpAny_pure ?_) | skip
 refine wpAny_bind (wpAny_sequenceKey ht.typeIs (by decide) ?_)
 refine wpAny_bind (wpAny_callSpecial?_slot (name := Str.ofString "__getitem__") ht.typeIs PyProof.Rows.slot_tuple_getitem
  (wpAny_call_entry PyProof.Rows.slot_tuple_getitem ht.typeIs entry_tuple_getitem ?_ (args_tuple_getitem _ _)))
 show wpAny _ _ (Builtin.Tuple.tupleItemsOf (.ref t) >>= _) _ _ s
 refine wpAny_bind (tupleItemsOf_ ht ?_)
 refine wpAny_bind (wpAny_typeOf hTs ?_)
 rw [if_pos (by decide)]
 refine wpAny_bind (zae4 hs pl pu ?_)
 have hno : ¬ ((((sIx items.size 0 lo : Nat) : Int) == 0 && (1 : Int) == 1 && (sIx items.size items.size hi - sIx items.size 0 lo) == items.size) = true) := by
  intro q
  rw [Bool.and_eq_true, Bool.and_eq_true] at q
  have q1 : ((sIx items.size 0 lo : Nat) : Int) = 0 := eq_of_beq q.1.1
  have q2 : sIx items.size items.size hi - sIx items.size 0 lo = items.size := eq_of_beq q.2
  exact hw ⟨by omega, by omega⟩
 show wpAny _ _ (if (((sIx items.size 0 lo : Nat) : Int) == 0 && (1 : Int) == 1 && (sIx items.size items.size hi - sIx items.size 0 lo) == items.size) = true then _ else _) _ _ s
 rw [if_neg hno, zals]
 first
  | exact wpAny_bind (m := Builtin.Tuple.tupleExact _) (wpAny_newObj_type (wpAny_pure ⟨_, rfl, wpAny_pure h⟩) htake)
  | exact wpAny_bind (m := Builtin.Tuple.tupleExact _) (wpAny_newObj_type (wpAny_bind (wpAny_pure (wpAny_pure ⟨_, rfl, wpAny_pure h⟩))) htake)
  | exact wpAny_bind (wpAny_bind (m := Builtin.Tuple.tupleExact _) (wpAny_newObj_type (wpAny_pure (wpAny_pure ⟨_, rfl, wpAny_pure h⟩)) htake))
  | exact wpAny_bind (wpAny_bind (m := Builtin.Tuple.tupleExact _) (wpAny_newObj_type (wpAny_pure ⟨_, rfl, wpAny_pure h⟩) htake))
end
end HT
namespace L2
open PySem PySem.Spec PyProof.Rows
abbrev TO := St → Hp → (Option Int → Hp → Prop) → Prop
def PO (X : Cx) (e : Option Expr) (t : TO) : Prop :=
 ∀ (pins : List (Addr × Obj)) (s : Shared) (σ : St) (H : Hp) (Q : Option Int → Hp → Prop), Inv X pins σ H s → t σ H Q →
  wpAny (model X.prog X.w) X.A (evalPart e X.env) (fun u s' => ∃ o H', Inv X pins σ H' s' ∧ IsPart u o ∧ Q o H') X.xe s
def tNoPart : TO := fun _ H Q => Q none H
def tPart (t : TE) : TO := fun σ H Q => t σ H fun x H1 => ∃ i, x = .int i ∧ Q (some i) H1
section
variable {X : Cx} {e : Expr} {te : TE} {lo hi : Option Expr} {tl th : TO} {pos p2 : Pos}
theorem zant : PO X none tNoPart := by
 intro pins s σ H Q I h
 rw [evalPart_none]
 exact wpAny_pure ⟨none, H, I, .none, h⟩
theorem zanu (h : PE X e te) : PO X (some e) (tPart te) := by
 intro pins s σ H Q I hw
 rw [evalPart_some]
 refine thn (h pins s σ H _ I hw) fun u s1 ⟨x, H1, I1, r1, q1⟩ => ?_
 obtain ⟨i, rfl, q⟩ := q1
 obtain ⟨t, rfl⟩ := r1
 exact ⟨some i, H1, I1, .int i t, q⟩
def SlR (X : Cx) (r : V → Option Int → Option Int → Hp → VK → Prop) : Prop :=
 ∀ (pins : List (Addr × Obj)) (s : Shared) (σ : St) (H : Hp) (x : V) (v vl vu : Value) (lo hi : Option Int) (sl : Addr) (Q : VK), Inv X pins σ H s → RelV x v → s.heap.IsSliceOf sl vl vu .none → IsPart vl lo → IsPart vu hi → r x lo hi H Q →
  ∃ T id, typeLookup (.type T) "__getitem__" = pure (some (.builtin id)) ∧ s.TypeIs v T ∧ wpAny (model X.prog X.w) X.A (getItem v (.ref sl)) (EP X pins σ Q) X.xe s
def tSl (r : V → Option Int → Option Int → Hp → VK → Prop) (te : TE) (tl th : TO) : TE := fun σ H Q => te σ H fun x H1 => tl σ H1 fun l H2 => th σ H2 fun u H3 => r x l u H3 Q
theorem zalt {r : V → Option Int → Option Int → Hp → VK → Prop} (hr : SlR X r) (he : PE X e te) (hl : PO X lo tl) (hu : PO X hi th) : PE X (.Subscript e (.Slice lo hi none p2) pos) (tSl r te tl th) := by
 intro pins s σ H Q I h
 refine Subscript_ (thn (he pins s σ H _ I h) fun v s1 ⟨x, H1, I1, r1, q1⟩ => ?_)
 refine wpAny_Slice (thn (hl pins s1 σ H1 _ I1 q1) fun vl s2 ⟨l, H2, I2, pl, q2⟩ => thn (hu pins s2 σ H2 _ I2 q2) fun vu s3 ⟨u, H3, I3, pu, q3⟩ => ?_)
 rw [evalPart_none]
 refine wpAny_pure ?_
 have I4 : Inv X pins σ H3 { s3 with heap := s3.heap.push { cls := .type "slice", data := .fields #[vl, vu, .none] } } := I3.kept (t' := s3.toks) fun b ob q => Heap.get?_push_of_some _ q
 obtain ⟨T, id, hT, ht, hg⟩ := hr pins { s3 with heap := s3.heap.push { cls := .type "slice", data := .fields #[vl, vu, .none] } } σ H3 x v vl vu l u s3.heap.objs.size Q I4 r1 (Heap.IsSliceOf.new ..) pl pu q3
 show wpAny (model X.prog X.w) X.A (subscriptTail e (.Slice lo hi none p2) v (.ref s3.heap.objs.size)) (EP X pins σ Q) X.xe { s3 with heap := s3.heap.push { cls := .type "slice", data := .fields #[vl, vu, .none] } }
 exact tail_any (ops := [.ref s3.heap.objs.size, v]) ht hT hg (by with_unfolding_all rfl)
def cutV (xs : List V) (lo hi : Option Int) : List V := (xs.drop (HT.sIx xs.length 0 lo)).take (HT.sIx xs.length xs.length hi - HT.sIx xs.length 0 lo)
theorem zah3 (xs : List V) (lo hi : Option Int) : (cutV xs lo hi).length ≤ xs.length := by
 unfold cutV
 rw [List.length_take, List.length_drop]
 omega
def rSlT (K : PySem.W.Frag) : V → Option Int → Option Int → Hp → VK → Prop := fun x lo hi H Q => ∃ a xs, x = .ref a ∧ SqT K H a xs ∧
 ¬ (HT.sIx xs.length 0 lo = 0 ∧ HT.sIx xs.length xs.length hi = xs.length) ∧ ∀ p, H p = none → Q (.ref p) (upd H p (.tup (cutV xs lo hi)))
theorem zais : SlR X (rSlT X.K) := by
 intro pins s σ H x v vl vu lo hi sl Q I rx hs pl pu h
 obtain ⟨a, xs, rfl, hx, hw, q⟩ := h
 cases rx
 obtain ⟨its, r, ht, hz⟩ := I.tuple hx
 have hlen : its.toArray.size = xs.length := by rw [List.size_toArray]; exact r.length.symm
 refine ⟨"tuple", _, PyProof.Rows.slot_tuple_getitem.lookup, ht.typeIs, ?_⟩
 refine HT.getItem_tuple_cut ht hs pl pu (by rw [hlen]; exact hw) ?_ (by rw [hlen]; exact hz)
 rw [hlen]
 refine ⟨.ref s.heap.objs.size, _, I.laid (t' := s.toks) (o := .tup (cutV xs lo hi)) (fun b ob q => Heap.get?_push_of_some _ q) (Nat.le_refl _) ?_, rfl, q _ (I.hok.fresh (Nat.le_refl _))⟩
 exact ⟨Nat.le_trans (zah3 xs lo hi) hz, _, (r.drop (HT.sIx xs.length 0 lo)).take (HT.sIx xs.length xs.length hi - HT.sIx xs.length 0 lo), IsTup.new _ _⟩
def rLtT (K : PySem.W.Frag) : R2 := fun x y H Q => ∃ a b ns ms, x = .ref a ∧ y = .ref b ∧ SqT K H a (ns.map V.int) ∧ SqT K H b (ms.map V.int) ∧ Q (.bl (HT.lexLt ns ms)) H
def rCatT (K : PySem.W.Frag) : R2 := fun x y H Q => ∃ a b xs ys, x = .ref a ∧ y = .ref b ∧ SqT K H a xs ∧ SqT K H b ys ∧ xs ≠ [] ∧ xs.length + ys.length ≤ sizeLine ∧
 (ys = [] → Q (.ref a) H) ∧ (ys ≠ [] → ∀ p, H p = none → Q (.ref p) (upd H p (.tup (xs ++ ys))))
end
def ixN (n : Nat) (i : Int) : Option Nat := if 0 ≤ i then (if i < n then some i.toNat else none) else if -(n : Int) ≤ i then some (i + n).toNat else none
def atI {α : Type} (xs : List α) (i : Int) : Option α := (ixN xs.length i).bind fun j => xs[j]?
theorem zaka {n : Nat} {i : Int} {j : Nat} (h : ixN n i = some j) : seqIndex? i n = some j ∧ j < n ∧ -(n : Int) ≤ i ∧ i < n := by
 unfold ixN at h
 by_cases h0 : 0 ≤ i
 ·rw [if_pos h0] at h
  by_cases h1 : i < n
  ·rw [if_pos h1] at h
   have e : i.toNat = j := Option.some.inj h
   exact ⟨by rw [seqIndex_of h0 h1, e], by omega, by omega, h1⟩
  ·rw [if_neg h1] at h; cases h
 ·rw [if_neg h0] at h
  by_cases h1 : -(n : Int) ≤ i
  ·rw [if_pos h1] at h
   have e : (i + n).toNat = j := Option.some.inj h
   exact ⟨by rw [seqIndex_neg (by omega) h1, e], by omega, h1, by omega⟩
  ·rw [if_neg h1] at h; cases h
theorem zah4 {α : Type} {xs : List α} {i : Int} {v : α} (h : atI xs i = some v) : ∃ j, seqIndex? i xs.length = some j ∧ xs[j]? = some v ∧ j < xs.length ∧ -(xs.length : Int) ≤ i ∧ i < xs.length := by
 unfold atI at h
 cases e : ixN xs.length i with
 | none => rw [e] at h; cases h
 | some j =>
  rw [e] at h
  obtain ⟨h1, h2, h3, h4⟩ := zaka e
  exact ⟨j, h1, h, h2, h3, h4⟩
theorem zadi {α : Type} {xs : List α} {j : Nat} {v : α} (h : xs[j]? = some v) : atI xs (j : Int) = some v := by
 have hj : j < xs.length := (List.getElem?_eq_some_iff.mp h).1
 have e : ixN xs.length (j : Int) = some j := by
  unfold ixN
  rw [if_pos (by omega), if_pos (by omega)]; simp
 unfold atI; rw [e]; exact h
def PlainIx (b : Expr) : Prop := ∀ o i, subscripted b false o i = operate [o, i] (getItem o i)
def IxR (X : Cx) (r : R2) : Prop :=
 ∀ (value slice : Expr) (pins : List (Addr × Obj)) (s : Shared) (σ : St) (H : Hp) (x y : V) (v u : Value) (Q : VK), Inv X pins σ H s → RelV x v → RelV y u → r x y H Q →
  subscripted slice false v u = operate [v, u] (getItem v u) → wpAny (model X.prog X.w) X.A (subscriptTail value slice v u) (EP X pins σ Q) X.xe s
def MtR (X : Cx) (id : String) (r : V → List V → Hp → VK → Prop) : Prop :=
 ∀ (pins : List (Addr × Obj)) (s : Shared) (σ : St) (H : Hp) (x : V) (xs : List V) (v : Value) (us : List Value) (Q : VK), Inv X pins σ H s → RelV x v → Vals xs us → r x xs H Q →
  wpAny (model X.prog X.w) X.A (call (.builtin id) (v :: us)) (EP X pins σ Q) X.xe s
section
variable {X : Cx} {a b : Expr} {ta tb : TE} {pos : Pos}
theorem zarl {r : R2} (hr : IxR X r) (ha : PE X a ta) (hb : PE X b tb) (hs : PlainIx b) : PE X (.Subscript a b pos) (tOp r ta tb) := by
 intro pins s σ H Q I h
 exact Subscript_ (binT ha hb I h fun v u s2 x y H2 I2 rx ry q => hr a b pins s2 σ H2 x y v u Q I2 rx ry q (hs _ _))
def rIxL (K : PySem.W.Frag) : R2 := fun x y H Q => ∃ p xs i v, x = .ref p ∧ y = .int i ∧ SqL K H p xs ∧ atI xs i = some v ∧ Q v H
def rIxT (K : PySem.W.Frag) : R2 := fun x y H Q => ∃ p xs i v, x = .ref p ∧ y = .int i ∧ SqT K H p xs ∧ atI xs i = some v ∧ Q v H
def rIxS : R2 := fun x y H Q => ∃ z i c, x = .str z ∧ y = .int i ∧ z.length ≤ sizeLine ∧ atI z.cps.toList i = some c ∧ Q (.str ⟨#[c]⟩) H
theorem zanv : IxR X (rIxL X.K) := by
 intro value slice pins s σ H x y v u Q I rx ry h hs
 obtain ⟨p, xs, i, z, rfl, rfl, hq, he, q⟩ := h
 cases rx
 obtain ⟨t, rfl⟩ := ry
 obtain ⟨its, r, pl, hz⟩ := I.list hq
 obtain ⟨j, h1, h2, h3, h4, h5⟩ := zah4 he
 obtain ⟨w, ew, rw'⟩ := r.get h2
 have hl := r.length
 have hn := line63
 have fin : EP X pins σ Q w s := ⟨z, H, I, rw', q⟩
 by_cases h0 : 0 ≤ i
 ·have hj : i.toNat = j := by
   rw [seqIndex_of h0 h5] at h1
   exact Option.some.inj h1
  exact item_listR pl.isList h0 (by omega) (by rw [hj]; simpa using ew) fin hs
 ·have hj : (i + (its.toArray.size : Int)).toNat = j := by
   rw [seqIndex_neg (by omega) h4] at h1
   rw [List.size_toArray, ← hl]
   exact Option.some.inj h1
  exact subscriptTail_builtinR (x := w) pl.isList.typeIs slot_list_getitem.lookup
   (wpAny_getItem_list_neg (Q := fun r s' => r = w ∧ EP X pins σ Q r s') pl.isList (by omega) (by rw [List.size_toArray] <;> omega) (by omega) (by rw [hj]; simpa using ew) ⟨rfl, fin⟩) hs
theorem zap1 : IxR X (rIxT X.K) := by
 intro value slice pins s σ H x y v u Q I rx ry h hs
 obtain ⟨p, xs, i, z, rfl, rfl, hq, he, q⟩ := h
 cases rx
 obtain ⟨t, rfl⟩ := ry
 obtain ⟨its, r, pl, hz⟩ := I.tuple hq
 obtain ⟨j, h1, h2, h3, h4, h5⟩ := zah4 he
 obtain ⟨w, ew, rw'⟩ := r.get h2
 have hl := r.length
 have hn := line63
 have fin : EP X pins σ Q w s := ⟨z, H, I, rw', q⟩
 exact subscriptTail_builtinR (x := w) pl.typeIs slot_tuple_getitem.lookup
  (getItem_tuple (j := j) (Q := fun r s' => r = w ∧ EP X pins σ Q r s') pl (by omega) (by omega) (by rw [List.size_toArray, ← hl]; exact h1) (by simpa using ew) ⟨rfl, fin⟩) hs
theorem zap2 : IxR X rIxS := by
 intro value slice pins s σ H x y v u Q I rx ry h hs
 obtain ⟨z, i, c, rfl, rfl, hz, he, q⟩ := h
 obtain ⟨t, rfl⟩ := rx
 obtain ⟨t', rfl⟩ := ry
 obtain ⟨j, h1, h2, h3, h4, h5⟩ := zah4 he
 have hl : z.cps.toList.length = z.length := by simp [Str.length]
 rw [hl] at h1 h4 h5
 have hn := line63
 exact tail_any (typeIs_str s z t) slot_str_getitem.lookup (getItem_str (c := c) (by
  have e1 : decide (i < -(2 ^ 63 : Int)) = false := decide_eq_false (by omega)
  have e2 : decide (i ≥ 2 ^ 63) = false := decide_eq_false (by omega)
  rw [e1, e2, Bool.or_false]) (by rw [h1]; simpa using h2) ⟨.str ⟨#[c]⟩, H, I.tok _, ⟨_, rfl⟩, q⟩) hs
def rIx (K : PySem.W.Frag) : R2 := fun x y H Q => rIxL K x y H Q ∨ rIxT K x y H Q ∨ rIxS x y H Q
theorem zajl (its : List Value) (n j : Nat) (u : Value) : Obj.mapSeq (·.setIfInBounds j u) { cls := .type "list", data := .seq its.toArray n } = { cls := .type "list", data := .seq (its.set j u).toArray n } := by
 simp [Obj.mapSeq]
theorem Inv.lst {pins : List (Addr × Obj)} {σ : St} {H : Hp} {s : Shared} {p : Addr} {xs : List V} (I : Inv X pins σ H s) (h : H p = some (.lst xs)) :
  ∃ (its : List Value) (n : Nat), Vals xs its ∧ s.heap.get? p = some { cls := .type "list", data := .seq its.toArray n } ∧ xs.length ≤ sizeLine := by
 obtain ⟨z, its, n, r, e⟩ := I.hok p _ h
 exact ⟨its, n, r, e, z⟩
theorem Inv.lstUpd {pins : List (Addr × Obj)} {σ : St} {H : Hp} {s : Shared} {p : Addr} {xs ys : List V} {its its' : List Value} {n n' : Nat} {f : Obj → Obj} (I : Inv X pins σ H s) (h : H p = some (.lst xs))
  (ho : s.heap.get? p = some { cls := .type "list", data := .seq its.toArray n }) (hf : f { cls := .type "list", data := .seq its.toArray n } = { cls := .type "list", data := .seq its'.toArray n' }) (r : Vals ys its') (hz : ys.length ≤ sizeLine) (t : Nat) :
  Inv X pins σ (upd H p (.lst ys)) { s with heap := s.heap.update p f, toks := t } := by
 have e : (s.heap.update p f).get? p = some { cls := .type "list", data := .seq its'.toArray n' } := by
  rw [Heap.get?_update_self f ho (by rw [hf] <;> rfl), hf]
 refine I.write (x := p) (e := p) (by rw [h]; trivial) (.inl rfl) (fun b u hb q => (Heap.get?_update_other _ _ (Ne.symm hb)).trans q) ⟨_, e⟩ ?_
 exact ⟨hz, its', n', r, e⟩
def rSetL : V → V → V → Hp → (Hp → Prop) → Prop := fun o i v H Q => ∃ p xs k j, o = .ref p ∧ i = .int k ∧ H p = some (.lst xs) ∧ ixN xs.length k = some j ∧ Q (upd H p (.lst (xs.set j v)))
theorem zait : PSet X rSetL := by
 intro pins s σ H o i v ov iv u Q I ro ri rv h
 obtain ⟨p, xs, k, j, rfl, rfl, hp, hj, q⟩ := h
 cases ro
 obtain ⟨t, rfl⟩ := ri
 obtain ⟨its, n, r, ho, hz⟩ := I.lst hp
 obtain ⟨h1, h2, h3, h4⟩ := zaka hj
 have hl := r.length
 have hn := line63
 have I' : Inv X pins σ (upd H p (.lst (xs.set j v))) { s with heap := s.heap.update p (Obj.mapSeq (·.setIfInBounds j u)) } :=
  I.lstUpd hp ho (zajl its n j u) (r.set rv j) (by rw [List.length_set]; exact hz) s.toks
 by_cases h0 : 0 ≤ k
 ·have hk : k.toNat = j := by
   rw [seqIndex_of h0 h4] at h1
   exact Option.some.inj h1
  exact PySem.W.ki_setAt ho h0 (by omega) (by rw [List.size_toArray, ← hl]; exact h4) (by rw [hk]; exact ⟨_, I', q⟩)
 ·have hk : (k + (its.toArray.size : Int)).toNat = j := by
   rw [seqIndex_neg (by omega) h3] at h1
   rw [List.size_toArray, ← hl]
   exact Option.some.inj h1
  exact PySem.W.ki_setBack ho (by omega) (by rw [List.size_toArray, ← hl]; exact h3) (by omega) (by rw [hk]; exact ⟨_, I', q⟩)
def rSlL (K : PySem.W.Frag) : V → Option Int → Option Int → Hp → VK → Prop := fun x lo hi H Q => ∃ a xs, x = .ref a ∧ SqL K H a xs ∧ ∀ p, H p = none → Q (.ref p) (upd H p (.lst (cutV xs lo hi)))
def flatV : V → Bool
 | .non => true
 | .bl _ => true
 | .int _ => true
 | .str _ => true
 | _ => false
def eqV : V → V → Bool
 | .non, .non => true
 | .bl a, .bl b => a == b
 | .bl a, .int b => (if a then 1 else 0) == b
 | .int a, .bl b => a == (if b then 1 else 0)
 | .int a, .int b => a == b
 | .str a, .str b => a == b
 | _, _ => false
theorem zap3 {A : Around} {s : Shared} {y x : V} {u v : Value} (ry : RelV y u) (rx : RelV x v) (fy : flatV y = true) (fx : flatV x = true) : SeqAt.EqAt A s u v (eqV y x) := by
 cases y with
 | non =>
  cases ry
  cases x with
  | non => cases rx; exact SeqAt.EqAt.same _
  | bl b => cases rx; exact SeqAt.EqAt.none_bool b
  | int b => obtain ⟨t, rfl⟩ := rx; exact SeqAt.EqAt.none_int b t
  | str b => obtain ⟨t, rfl⟩ := rx; exact SeqAt.EqAt.none_str b t
  | _ => exact absurd (show false = true from fx) Bool.false_ne_true
 | bl a =>
  cases ry
  cases x with
  | non => cases rx; exact SeqAt.EqAt.bool_none a
  | bl b => cases rx; exact SeqAt.EqAt.bool_bool a b
  | int b => obtain ⟨t, rfl⟩ := rx; exact SeqAt.EqAt.bool_int a b t
  | str b => obtain ⟨t, rfl⟩ := rx; exact SeqAt.EqAt.bool_str a b t
  | _ => exact absurd (show false = true from fx) Bool.false_ne_true
 | int a =>
  obtain ⟨t', rfl⟩ := ry
  cases x with
  | non => cases rx; exact SeqAt.EqAt.int_none a t'
  | bl b => cases rx; exact SeqAt.EqAt.int_bool a t' b
  | int b => obtain ⟨t, rfl⟩ := rx; exact SeqAt.EqAt.int_int a t' b t
  | str b => obtain ⟨t, rfl⟩ := rx; exact SeqAt.EqAt.int_str a t' b t
  | _ => exact absurd (show false = true from fx) Bool.false_ne_true
 | str a =>
  obtain ⟨t', rfl⟩ := ry
  cases x with
  | non => cases rx; exact SeqAt.EqAt.str_none a t'
  | bl b => cases rx; exact SeqAt.EqAt.str_bool a t' b
  | int b => obtain ⟨t, rfl⟩ := rx; exact SeqAt.EqAt.str_int a t' b t
  | str b => obtain ⟨t, rfl⟩ := rx; exact SeqAt.EqAt.str_str a t' b t
  | _ => exact absurd (show false = true from fx) Bool.false_ne_true
 | _ => exact absurd (show false = true from fy) Bool.false_ne_true
def eqU (x : V) (u : Value) : Bool := match u with
 | .none => eqV .non x
 | .bool b => eqV (.bl b) x
 | .int i _ => eqV (.int i) x
 | .str z _ => eqV (.str z) x
 | _ => false
theorem zamw {x y : V} {u : Value} (r : RelV y u) (f : flatV y = true) : eqU x u = eqV y x := by
 cases y with
 | non => cases r; rfl
 | bl b => cases r; rfl
 | int i => obtain ⟨t, rfl⟩ := r; rfl
 | str z => obtain ⟨t, rfl⟩ := r; rfl
 | _ => exact absurd (show false = true from f) Bool.false_ne_true
theorem zafh {x : V} : ∀ {xs : List V} {us : List Value}, Vals xs us → xs.all flatV = true → us.any (eqU x) = xs.any fun y => eqV y x
 | _, _, .nil, _ => rfl
 | y :: xs, u :: us, .cons r t, f => by
  rw [List.all_cons, Bool.and_eq_true] at f
  rw [List.any_cons, List.any_cons, zamw r f.1, zafh t f.2]
theorem zad4 {A : Around} {s : Shared} {x : V} {v : Value} (rx : RelV x v) (fx : flatV x = true) : ∀ {xs : List V} {us : List Value}, Vals xs us → xs.all flatV = true → ∀ u ∈ us, SeqAt.EqAt A s u v (eqU x u)
 | _, _, .nil, _ => fun u hu => by cases hu
 | y :: xs, u :: us, .cons r t, f => fun u' hu => by
  rw [List.all_cons, Bool.and_eq_true] at f
  rcases List.mem_cons.mp hu with rfl | hu
  ·rw [zamw r f.1]; exact zap3 r rx f.1 fx
  ·exact zad4 rx fx t f.2 u' hu
def inV (x : V) (xs : List V) : Bool := xs.any fun y => eqV y x
def rIn (K : PySem.W.Frag) (neg : Bool) : R2 := fun x y H Q => ∃ p xs, y = .ref p ∧ (SqL K H p xs ∨ SqT K H p xs) ∧ flatV x = true ∧ xs.all flatV = true ∧ Q (.bl (if neg then !inV x xs else inV x xs)) H
theorem zac1 : OpR X (compareOp .In) (rIn X.K false) := by
 intro pins s σ H x y v u Q I rx ry h
 obtain ⟨p, xs, rfl, hq, fx, fs, q⟩ := h
 cases ry
 rcases hq with hq | hq
 ·obtain ⟨its, r, pl, hz⟩ := I.list hq
  refine SeqAt.in_listAt (eqU x) pl.isList (fun w hw => zad4 rx fx r fs w (by simpa using hw)) ⟨.bl _, H, I, rfl, ?_⟩
  rw [show its.toArray.any (eqU x) = its.any (eqU x) by simp, zafh r fs]
  exact q
 ·obtain ⟨its, r, pl, hz⟩ := I.tuple hq
  refine SeqAt.in_tupleAt (eqU x) pl (fun w hw => zad4 rx fx r fs w (by simpa using hw)) ⟨.bl _, H, I, rfl, ?_⟩
  rw [show its.toArray.any (eqU x) = its.any (eqU x) by simp, zafh r fs]
  exact q
theorem zahm : OpR X (compareOp .NotIn) (rIn X.K true) := by
 intro pins s σ H x y v u Q I rx ry h
 obtain ⟨p, xs, rfl, hq, fx, fs, q⟩ := h
 cases ry
 rcases hq with hq | hq
 ·obtain ⟨its, r, pl, hz⟩ := I.list hq
  refine SeqAt.notIn_listAt (eqU x) pl.isList (fun w hw => zad4 rx fx r fs w (by simpa using hw)) ⟨.bl _, H, I, rfl, ?_⟩
  rw [show its.toArray.any (eqU x) = its.any (eqU x) by simp, zafh r fs]
  exact q
 ·obtain ⟨its, r, pl, hz⟩ := I.tuple hq
  refine SeqAt.notIn_tupleAt (eqU x) pl (fun w hw => zad4 rx fx r fs w (by simpa using hw)) ⟨.bl _, H, I, rfl, ?_⟩
  rw [show its.toArray.any (eqU x) = its.any (eqU x) by simp, zafh r fs]
  exact q
theorem zaay : CallR X (.builtin "len") (fun xs H Q => ∃ p ys, xs = [.ref p] ∧ (SqL X.K H p ys ∨ SqT X.K H p ys) ∧ Q (.int ys.length) H) := by
 intro pins s σ H xs us Q I r h
 obtain ⟨p, ys, rfl, hq, q⟩ := h
 obtain ⟨u, rfl, rx⟩ := vals1 r
 cases rx
 have hn := line63
 rcases hq with hq | hq
 ·obtain ⟨its, r', pl, hz⟩ := I.list hq
  have hlen := r'.length
  exact Calls.call_len_list pl.isList (by simp only [List.size_toArray] <;> omega) ⟨.int ys.length, H, I.tok _, ⟨s.toks + 1, by rw [List.size_toArray, hlen]⟩, q⟩
 ·obtain ⟨its, r', pl, hz⟩ := I.tuple hq
  have hlen := r'.length
  exact len_tuple pl (by simp only [List.size_toArray] <;> omega) ⟨.int ys.length, H, I.tok _, ⟨s.toks + 1, by rw [List.size_toArray, hlen]⟩, q⟩
theorem zahn : CallR X (.type "list") (fun xs H Q => ∃ p ys, xs = [.ref p] ∧ (SqL X.K H p ys ∨ SqT X.K H p ys) ∧ ∀ l, H l = none → Q (.ref l) (upd H l (.lst ys))) := by
 intro pins s σ H xs us Q I r h
 obtain ⟨p, ys, rfl, hq, q⟩ := h
 obtain ⟨u, rfl, rx⟩ := vals1 r
 cases rx
 have fin : ∀ (its : List Value), Vals ys its → ys.length ≤ sizeLine → ∀ (h' : Heap) (c' : Nat), (∀ b o', s.heap.get? b = some o' → h'.get? b = some o') →
   h'.get? s.heap.objs.size = some { cls := .type "list", dict := none, data := .seq its.toArray c', slots := #[] } → EP X pins σ Q (.ref s.heap.objs.size) { s with heap := h' } := fun its r' hz h' c' kp e =>
  ⟨.ref s.heap.objs.size, _, I.laid (t' := s.toks) kp (Nat.le_refl _) (show ObjOk X.prog X.w _ h' _ (.lst ys) from ⟨hz, its, c', r', e⟩), rfl, q _ (I.hok.fresh (Nat.le_refl _))⟩
 rcases hq with hq | hq
 ·obtain ⟨its, r', pl, hz⟩ := I.list hq
  have hlen := r'.length
  obtain ⟨o, ho, hc, n, hd⟩ := pl.isList
  exact call_list_seq p (.inl rfl) ho hc hd (fun h' c' kp e => fin its r' hz h' c' kp e) (by simp only [List.size_toArray] <;> omega)
 ·obtain ⟨its, r', pl, hz⟩ := I.tuple hq
  have hlen := r'.length
  obtain ⟨o, ho, hc, n, hd⟩ := pl
  exact call_list_seq p (.inr rfl) ho hc hd (fun h' c' kp e => fin its r' hz h' c' kp e) (by simp only [List.size_toArray] <;> omega)
theorem zac7 : CallR X (.type "tuple") (fun xs H Q => ∃ p ys, xs = [.ref p] ∧ ((SqL X.K H p ys ∧ ∀ l, H l = none → Q (.ref l) (upd H l (.tup ys))) ∨ (SqT X.K H p ys ∧ Q (.ref p) H))) := by
 intro pins s σ H xs us Q I r h
 obtain ⟨p, ys, rfl, h⟩ := h
 obtain ⟨u, rfl, rx⟩ := vals1 r
 cases rx
 rcases h with ⟨hq, q⟩ | ⟨hq, q⟩
 ·obtain ⟨its, r', pl, hz⟩ := I.list hq
  have hlen := r'.length
  refine call_tuple_list pl.isList (fun h' kp => ?_) (by simp only [List.size_toArray] <;> omega)
  have I1 : Inv X pins σ H { s with heap := h' } := I.kept (t' := s.toks) kp
  have I2 : Inv X pins σ (upd H h'.objs.size (.tup ys)) { s with heap := h'.push { cls := .type "tuple", data := .seq its.toArray } } :=
   I1.laid (t' := s.toks) (fun b o e => Heap.get?_push_of_some _ e) (Nat.le_refl _) (show ObjOk X.prog X.w _ _ _ (.tup ys) from ⟨hz, its, r', IsTup.new _ _⟩)
  exact ⟨.ref h'.objs.size, _, I2, rfl, q _ (I1.hok.fresh (Nat.le_refl _))⟩
 ·obtain ⟨its, r', pl, hz⟩ := I.tuple hq
  exact call_tuple_same pl ⟨.ref p, H, I, rfl, q⟩
def tyV (K : PySem.W.Frag) (T : String) (x : V) (H : Hp) : Prop := match x with
 | .str _ => T = "str"
 | .int _ => T = "int"
 | .ref p => (T = "list" ∧ ∃ xs, SqL K H p xs) ∨ (T = "tuple" ∧ ∃ o, K.lookup p = some o ∧ o.cls = .type "tuple" ∧ o.dict = none) ∨
   (T = "dict" ∧ ((∃ kvs, H p = some (.dK kvs)) ∨ ∃ kvs, H p = some (.dT kvs))) ∨ (T = "set" ∧ ∃ S n, H p = some (.set S n))
 | _ => False
theorem zamx {pins : List (Addr × Obj)} {σ : St} {H : Hp} {s : Shared} {T : String} {x : V} {v : Value} (I : Inv X pins σ H s) (r : RelV x v) (ty : tyV X.K T x H) :
  s.TypeIs v T ∧ ∀ a, v = .ref a → ∃ ob, s.heap.get? a = some ob ∧ ob.dict = none := by
 cases x with
 | str z =>
  obtain ⟨t, rfl⟩ := r
  cases (show T = "str" from ty)
  exact ⟨typeIs_str s z t, fun _ e => nomatch e⟩
 | int i =>
  obtain ⟨t, rfl⟩ := r
  cases (show T = "int" from ty)
  exact ⟨typeIs_int s i t, fun _ e => nomatch e⟩
 | ref p =>
  cases r
  rcases ty with ⟨rfl, xs, hq⟩ | ⟨rfl, o, hk, hc, hd⟩ | ⟨rfl, hk⟩ | ⟨rfl, S, n, hk⟩
  ·obtain ⟨its, _, pl, _⟩ := I.list hq
   refine ⟨pl.isList.typeIs, fun a e => ?_⟩
   cases e
   obtain ⟨o, n, e, c, hd, _⟩ := pl
   exact ⟨o, e, hd⟩
  ·refine ⟨⟨o, I.kIn p o hk, hc⟩, fun a e => ?_⟩
   cases e
   exact ⟨o, I.kIn _ o hk, hd⟩
  ·have z : ∃ o, s.heap.get? p = some o ∧ o.ExactDict := by
    rcases hk with ⟨kvs, hk⟩ | ⟨kvs, hk⟩
    ·obtain ⟨_, _, _, _, o, _, _, e, ex, _⟩ := I.hok p _ hk
     exact ⟨o, e, ex⟩
    ·obtain ⟨_, _, _, _, o, _, _, e, ex, _⟩ := I.hok p _ hk
     exact ⟨o, e, ex⟩
   obtain ⟨o, e, ex⟩ := z
   refine ⟨⟨o, e, ex.1⟩, fun a e2 => ?_⟩
   cases e2
   exact ⟨o, e, ex.2.1⟩
  ·obtain ⟨o, _, _, _, e, ex, _⟩ := I.hok p _ hk
   refine ⟨⟨o, e, ex.1⟩, fun a e2 => ?_⟩
   cases e2
   exact ⟨o, e, ex.2.1⟩
 | _ => exact False.elim ty
def tBM0 (K : PySem.W.Frag) (T : String) (r : V → List V → Hp → VK → Prop) (to : TE) : TE := fun σ H Q => to σ H fun x H1 => tyV K T x H1 ∧ r x [] H1 Q
def tBM (K : PySem.W.Frag) (T : String) (r : V → List V → Hp → VK → Prop) (to : TE) (t : TA) : TE := fun σ H Q => to σ H fun x H1 => tyV K T x H1 ∧ t σ H1 fun xs H2 => r x xs H2 Q
variable {o e : Expr} {es : List Expr} {to : TE} {t : TA} {name : Str} {apos cpos : Pos} {T id : String} {r : V → List V → Hp → VK → Prop}
theorem zap4 (pa : PlainAttrs T) (slot : Slot T name id) (hty : typeOf (.builtin id) = pure (.type "method_descriptor")) (hm : MtR X id r) (ho : PE X o to)
  (hbase : attributeBase o name X.env (eval o X.env) = eval o X.env := by rfl) (hline : (apos.endLine == cpos.line) = true := by rfl) : PE X (.Call (.Attribute o name apos) [] [] cpos) (tBM0 X.K T r to) := by
 intro pins s σ H Q I h
 refine wpAny_Call_method0_late hbase hline (thn (ho pins s σ H _ I h) fun v s1 ⟨x, H1, I1, r1, ty, q1⟩ => ?_)
 obtain ⟨h1, h2⟩ := zamx I1 r1 ty
 exact ⟨T, id, pa, slot, hty, h1, h2, Calls.callWith_builtin rfl (PySem.evalArgs_none (hm pins s1 σ H1 x [] v [] Q I1 r1 .nil q1))⟩
theorem zarm (pa : PlainAttrs T) (slot : Slot T name id) (hty : typeOf (.builtin id) = pure (.type "method_descriptor")) (hm : MtR X id r) (ho : PE X o to) (ha : PA X (e :: es) t)
  (hbase : attributeBase o name X.env (eval o X.env) = eval o X.env := by rfl)
  (hfew : ((backTo cpos (starEach (e :: es) X.env)).all (fun x => !x.1) && (backToKw cpos (keywordEach [] X.env)).all (fun x => x.1.isSome)
   && decide ((e :: es).length + ([] : List Keyword).length + (if ([] : List Keyword).isEmpty then 0 else 1) < 30)) = true := by rfl)
  (hline : (apos.endLine == cpos.line) = true := by rfl) (hs : starEach (e :: es) X.env = (false, eval e X.env) :: starEach es X.env := by rfl) (hplain : (backTo cpos (starEach es X.env)).any (·.1) = false := by rfl) :
  PE X (.Call (.Attribute o name apos) (e :: es) [] cpos) (tBM X.K T r to t) := by
 intro pins s σ H Q I h
 refine wpAny_Call_method_late hbase hfew hline rfl (thn (ho pins s σ H _ I h) fun v s1 ⟨x, H1, I1, r1, ty, q1⟩ => ?_)
 obtain ⟨h1, h2⟩ := zamx I1 r1 ty
 refine ⟨T, id, pa, slot, hty, h1, h2, ?_⟩
 have hA := ha cpos pins s1 σ H1 _ I1 q1
 rw [hs] at hA ⊢
 refine Calls.callWith_builtin (by show (false || (backTo cpos (starEach es X.env)).any (·.1)) = false; rw [hplain] <;> rfl) (Calls.evalArgs_plain ?_)
 exact thn hA fun us s2 ⟨vs, H2, I2, r2, q2⟩ => hm pins s2 σ H2 x vs v us Q I2 r1 r2 q2
end
def MtM (X : Cx) (id : String) (r : V → List V → Hp → VK → Prop) : Prop :=
 ∀ (pins : List (Addr × Obj)) (s : Shared) (σ : St) (H : Hp) (x : V) (xs : List V) (v : Value) (us : List Value) (Q : VK), Inv X pins σ H s → RelV x v → Vals xs us → r x xs H Q →
  wpAny (model X.prog X.w) X.A (call (.builtin id) (v :: us)) (EP X pins σ Q) X.xe s
theorem Vals.one : ∀ {x : V} {us : List Value}, Vals [x] us → ∃ u, us = [u] ∧ RelV x u
 | _, _, .cons r .nil => ⟨_, rfl, r⟩
section
variable {X : Cx} {pins : List (Addr × Obj)} {σ : St} {H : Hp} {s : Shared} {l b : Addr} {xs ys zs : List V}
theorem Inv.lset {its its' : List Value} {n : Nat} {f : Array Value → Array Value} {t' : Nat} (I : Inv X pins σ H s) (hH : H l = some (.lst xs))
  (e : s.heap.get? l = some { cls := .type "list", data := .seq its.toArray n }) (hf : f its.toArray = its'.toArray) (hv : Vals ys its') (hz : ys.length ≤ sizeLine) :
  Inv X pins σ (upd H l (.lst ys)) { s with heap := s.heap.update l (Obj.mapSeq f), toks := t' } := by
 have q := PySem.IsL.update e f
 rw [hf] at q
 refine I.write (x := l) (e := l) (by rw [hH]; exact trivial) (.inl rfl) (fun b' u hb hu => (Heap.get?_update_other s.heap (Obj.mapSeq f) (Ne.symm hb)).trans hu) ⟨_, q⟩ ?_
 exact ⟨hz, its', _, hv, q⟩
theorem Inv.lnew {its : List Value} {t' : Nat} (I : Inv X pins σ H s) (hv : Vals ys its) (hz : ys.length ≤ sizeLine) :
  Inv X pins σ (upd H s.heap.objs.size (.lst ys)) { s with heap := s.heap.push { cls := .type "list", data := .seq its.toArray }, toks := t' } :=
 I.laid (fun _ _ q => Heap.get?_push_of_some _ q) (Nat.le_refl _) ⟨hz, its, 0, hv, Heap.get?_push_size _ rfl⟩
theorem Inv.fresh (I : Inv X pins σ H s) : H s.heap.objs.size = none := I.hok.fresh (Nat.le_refl _)
theorem Inv.lstM (I : Inv X pins σ H s) (hH : H l = some (.lst xs)) : xs.length ≤ sizeLine ∧ ∃ (its : List Value) (n : Nat), Vals xs its ∧ xs.length = its.length ∧ s.heap.get? l = some { cls := .type "list", data := .seq its.toArray n } := by
 obtain ⟨z, its, n, r, e⟩ := I.hok l _ hH
 exact ⟨z, its, n, r, r.length, e⟩
theorem notLongL {n : Nat} (h : n ≤ sizeLine) : Builtin.List.listTooLong n = false := by
 unfold Builtin.List.listTooLong
 exact decide_eq_false (by omega)
end
section
variable {X : Cx}
def rAppend : V → List V → Hp → VK → Prop := fun x vs H Q => ∃ l xs y, x = .ref l ∧ vs = [y] ∧ H l = some (.lst xs) ∧ xs.length < sizeLine ∧ Q .non (upd H l (.lst (xs ++ [y])))
theorem zad5 : MtM X "list.append" rAppend := by
 intro pins s σ H x vs v us Q I rx rv h
 obtain ⟨l, xs, y, rfl, rfl, hH, hz, q⟩ := h
 cases rx
 obtain ⟨u, rfl, ru⟩ := rv.one
 obtain ⟨z, its, n, r, hl, e⟩ := I.lstM hH
 refine call_meets F.slot_list_append ⟨_, e, rfl⟩ F.entry_list_append (F.args_list_append_2 _ _) (PySem.list_append l its.toArray n u (by rw [List.size_toArray]; omega)) ⟨e, ?_⟩
 refine ⟨.non, _, I.lset (its' := its ++ [u]) hH e (by simp) (r.append (.cons ru .nil)) ?_, rfl, q⟩
 rw [List.length_append, List.length_singleton]
 omega
def rExtend : V → List V → Hp → VK → Prop := fun x vs H Q => ∃ l b xs zs, x = .ref l ∧ vs = [.ref b] ∧ H l = some (.lst xs) ∧ H b = some (.lst zs) ∧ xs.length + zs.length ≤ sizeLine ∧ Q .non (upd H l (.lst (xs ++ zs)))
theorem zakb : MtM X "list.extend" rExtend := by
 intro pins s σ H x vs v us Q I rx rv h
 obtain ⟨l, b, xs, zs, rfl, rfl, hH, hB, hz, q⟩ := h
 cases rx
 obtain ⟨u, rfl, ru⟩ := rv.one
 cases ru
 obtain ⟨z, its, n, r, hl, e⟩ := I.lstM hH
 obtain ⟨z2, its2, n2, r2, hl2, e2⟩ := I.lstM hB
 have hsz : its.toArray.size + its2.toArray.size ≤ sizeLine := by rw [List.size_toArray, List.size_toArray]; omega
 have hlong : ¬ (!its.toArray.isEmpty && Builtin.List.listTooLong (its.toArray.size + its2.toArray.size)) = true := by
  rw [notLongL hsz, Bool.and_false]
  exact Bool.false_ne_true
 refine call_meets F.slot_list_extend ⟨_, e, rfl⟩ F.entry_list_extend (F.args_list_extend_2 _ _)
  (AutoSeq1.list_extend_list_list_0 l its.toArray n b its2.toArray n2 hlong (by rw [List.size_toArray]; omega) (by omega)) ⟨e, e2, ?_⟩
 refine ⟨.non, _, I.lset (its' := its ++ its2) hH e (by simp) (r.append r2) ?_, rfl, q⟩
 rw [List.length_append]
 omega
def rPop : V → List V → Hp → VK → Prop := fun x vs H Q => ∃ l xs y, x = .ref l ∧ vs = [] ∧ H l = some (.lst xs) ∧ xs[xs.length - 1]? = some y ∧ Q y (upd H l (.lst xs.dropLast))
def rPopAt : V → List V → Hp → VK → Prop := fun x vs H Q => ∃ l xs i k y, x = .ref l ∧ vs = [.int i] ∧ H l = some (.lst xs) ∧ -(2 ^ 63) ≤ i ∧ i < 2 ^ 63 ∧ seqIndex? i xs.length = some k ∧ xs[k]? = some y ∧ Q y (upd H l (.lst (xs.eraseIdx k)))
def rReverse : V → List V → Hp → VK → Prop := fun x vs H Q => ∃ l xs, x = .ref l ∧ vs = [] ∧ H l = some (.lst xs) ∧ Q .non (upd H l (.lst xs.reverse))
def rClear : V → List V → Hp → VK → Prop := fun x vs H Q => ∃ l xs, x = .ref l ∧ vs = [] ∧ H l = some (.lst xs) ∧ Q .non (upd H l (.lst []))
def rCat : R2 := fun x y H Q => ∃ l b xs zs, x = .ref l ∧ y = .ref b ∧ H l = some (.lst xs) ∧ H b = some (.lst zs) ∧ xs.length + zs.length ≤ sizeLine ∧ ∀ p, H p = none → Q (.ref p) (upd H p (.lst (xs ++ zs)))
theorem zad1 : OpR X (binaryOp .Add) rCat := by
 intro pins s σ H x y v u Q I rx ry h
 obtain ⟨l, b, xs, zs, rfl, rfl, hH, hB, hz, q⟩ := h
 cases rx
 cases ry
 obtain ⟨z, its, n, r, hl, e⟩ := I.lstM hH
 obtain ⟨z2, its2, n2, r2, hl2, e2⟩ := I.lstM hB
 refine PySem.P.add_list e e2 ?_ (by rw [List.size_toArray, List.size_toArray]; omega)
 have ea : its.toArray ++ its2.toArray = (its ++ its2).toArray := by simp
 rw [ea]
 exact ⟨.ref _, _, I.lnew (t' := s.toks) (r.append r2) (by rw [List.length_append]; omega), rfl, q _ I.fresh⟩
def rRep : R2 := fun x y H Q => ∃ l k xs, x = .ref l ∧ y = .int k ∧ H l = some (.lst xs) ∧ -(2 ^ 63) ≤ k ∧ k < 2 ^ 63 ∧ xs.length * k.toNat ≤ sizeLine ∧
 ∀ p, H p = none → Q (.ref p) (upd H p (.lst (List.replicate k.toNat xs).flatten))
end
section
variable {prog : Program} {w : World} {A : Around} {E : Value → Shared → Prop} {s : Shared}
end
section
variable {X : Cx}
end
end L2
namespace Att
open PySem PySem.W PySem.Calls PyProof.Rows
theorem zafi {P : Params} {h : Heap} : ∀ (ns : List Int) (vs : List Value), WellAll P h vs (ns.map WData.int) → IntsAre vs ns := by
 intro ns
 induction ns with
 | nil =>
  intro vs w
  rw [List.map_nil] at w
  cases w
  exact .nil
 | cons n ns ih =>
  intro vs w
  rw [List.map_cons] at w
  cases w with
  | cons a b =>
   cases a
   exact .cons _ _ (ih _ b)
theorem zakc {l : OpenLaw} {n : Nat} (hn : l.most = some n) {P : Params} {h : Heap} {args : List WData} {vals : List Value}
  (hpre : l.row.toRowW.claim.pre args = true) (hwl : WellAll P h vals args) :
  ∃ a vs ns, vals = [Value.ref a] ∧ args = [WData.list (ns.map WData.int)] ∧ h.get? a = some { cls := .type "list", data := .seq vs.toArray } ∧ IntsAre vs ns ∧ ns.length ≤ n := by
 have hsh : WShape.hasAll [] args [.list .int] = true := (pre_splitW hpre).1
 have hc : l.pre.holds [] { args := args } = true := (pre_splitW hpre).2
 obtain ⟨d, r, rfl, h1, h2⟩ := hasAllW_cons hsh
 obtain rfl := hasAllW_nil h2
 obtain ⟨xs, rfl, h3⟩ := hasW_list h1
 obtain ⟨ns, rfl⟩ := items_int h3
 have hlen : ns.length ≤ n := by
  unfold OpenLaw.pre at hc
  have h4 : (WTm.not (.lt (.lit (.int (n : Int))) (.len (.arg 0)))).holds [] { args := [.list (ns.map .int)] } = true := by
   have h4 := (holds_andW hc).1
   rw [hn] at h4
   exact h4
  have h5 := condW_of h4 (w_not (w_lt w_lit (w_len_list (w_arg rfl))))
  rw [List.length_map] at h5
  refine Nat.le_of_not_lt fun q => ?_
  have q' : (n : Int) < ((ns.length : Nat) : Int) := by omega
  first
   | (rw [decide_eq_true q'] at h5; exact absurd h5 (by decide))
   | (simp at h5; omega)
 cases hwl with
 | cons w1 w2 =>
  cases w2
  cases w1 with
  | list ho hall => exact ⟨_, _, ns, rfl, rfl, ho, zafi ns _ hall, hlen⟩
theorem zakd (l : OpenLaw) (args : List WData) : l.row.toRowW.claim.post args (.bool true) args = true :=
 postW_of (r := l.row.toRowW) (X := (true == true))
  (show WShape.has [] (.bool true) .bool = true by first | rfl | decide | simp [WShape.has, WShape.arms, WShape.armsAll])
  (show (WTm.eq .res (.lit (.bool true))).value [] { args := args, res := some (.bool true), after := args } = some (.bool (true == true)) from w_eq_bool (w_res rfl) w_lit) rfl
theorem attach_call {l : OpenLaw} {n : Nat} {q : Program} {loose : List Str} {XP : (Str → Option Value) → Heap → Prop} {YP : World → Heap → Prop} {d : DefRec}
  (hn : l.most = some n) (hdf : d.params.defaults = [])
  (call : ∀ (w : World) (s₀ s₁ : Shared) (mg mb : Str → Option Value) (fa : Addr) (o : Obj) (pm cd doc : Value) (a : Addr) (vs : List Value) (ns : List Int),
   Ground q loose [] XP w s₀ mg mb s₁.heap → YP w s₁.heap →
   s₁.heap.get? fa = some o → o.data = .func (docDef d.name d.params d.body d.scope pm cd doc) → s₁.heap.CodeRec cd d.name → mg d.name = some (.ref fa) →
   s₁.heap.get? a = some { cls := .type "list", data := .seq vs.toArray } → IntsAre vs ns → ns.length ≤ n → s₁.gens = #[] →
   codeAny (model l.prog w) callerA (.call (.ref fa) ⟨[.ref a], []⟩) (fun r s' => r = .ok (.ret (.bool true)) ∧ OldK s₁.heap s'.heap ∧ s'.os = s₁.os ∧ AllBare s'.gens) s₁) :
  WalkO q loose XP YP l.row.toRowW d [] (fun f vs => PySem.call f vs) := by
 intro w s₀ s₁ mg mb G Y fa o pm cd doc dV kV ho hd hcd hD hmg hg args vals as hpre hlay hrd hwl hlo
 obtain rfl : dV = .none := Dflts.none hD hdf
 obtain rfl : kV = .none := Dflts.noKw hD
 obtain ⟨a, vs, ns, rfl, rfl, hobj, hints, hlen⟩ := zakc hn hpre hwl
 refine enter_call (codeAny_mono (call w s₀ s₁ mg mb fa o pm cd doc a vs ns G Y ho (fd_plain hd) hcd hmg hobj hints hlen hg) fun r s' hq => ?_)
 obtain ⟨rfl, h2, h3, h4⟩ := hq
 exact ⟨.inl ⟨.bool true, .bool true, [], rfl, fun _ => rfl, .bool true, zakd l _, fun _ => ⟨List.Pairwise.nil, fun _ hm => (nomatch hm)⟩⟩, h2, h3, h4⟩
section
variable {prog : Program} {w : World} {A : Around} {E : Value → Shared → Prop} {s : Shared} {K : Frag}
def noObjs (h : Heap) : Heap := { h with objs := #[] }
def ledger (h : Heap) (L d : Addr) : List (Addr × Obj) := (List.range h.objs.size).filterMap fun a => if a = L ∨ a = d then none else (h.get? a).map fun o => (a, o)
end
end Att
namespace L2
open PySem PySem.Spec PyProof.Rows
theorem zaho : ∀ {vs : List Value} {ns : List Int}, IntsAre vs ns → Vals (ns.map V.int) vs
 | _, _, .nil => .nil
 | _, _, .cons n t h => .cons ⟨t, rfl⟩ (zaho h)
def Only (H : Hp) : Prop := ∀ b, H b = none ∨ ∃ o xs, H b = some (.frz o (.lst xs))
theorem zalu {P : Program} {w : World} {K : PySem.W.Frag} {mg mb : Str → Option Value} {CX : CXT} {k : Nat} {fa a : Addr} {fd : FuncData} {x : Str} {sp : Sp} {s₁ : Shared} {vs : List Value} {ns : List Int}
  (KX : K.In s₁.heap) (hns : s₁.heap.Ns mainGlobals mg) (hb : s₁.heap.Ns builtinsNs mb) (hbb : ∀ x : Str, x ≠ "__name__" → mb x = bootBuiltins x) (hlim : s₁.heap.NoLimit) (hg : s₁.gens = #[])
  (ha : s₁.heap.get? a = some { cls := .type "list", data := .seq vs.toArray }) (hi : IntsAre vs ns) (hl : ns.length ≤ sizeLine) (hr : Room k callerA)
  (F : ∀ base : Heap, K.In base → base.Ns mainGlobals mg → FnOk P w K mg base CX k fa fd [x] sp) (hbind : ∀ (s : Shared) (u : Value), BindsTo s fd ⟨[u], []⟩ [(x, u)])
  (hsp : ∀ H : Hp, Only H → SqL K H a (ns.map V.int) → sp [.ref a] H (fun v _ => v = .bl true) fun _ _ _ => False)
  (hCX : ∀ H e s', CX [] H s₁ (fun _ _ _ => False) e s' → False) :
  codeAny (model P w) callerA (.call (.ref fa) ⟨[.ref a], []⟩) (fun r s' => r = .ok (.ret (.bool true)) ∧ OldK s₁.heap s'.heap ∧ s'.os = s₁.os ∧ AllBare s'.gens) s₁ := by
 have rv := zaho hi
 have lenV := hi.length
 have core : ∀ H : Hp, Only H → SqL K H a (ns.map V.int) → HOk P w H s₁.heap → (∀ b, H b ≠ none → b = a) → (H a ≠ none → K.lookup a = none) →
   codeAny (model P w) callerA (.call (.ref fa) ⟨[.ref a], []⟩) (fun r s' => r = .ok (.ret (.bool true)) ∧ OldK s₁.heap s'.heap ∧ s'.os = s₁.os ∧ AllBare s'.gens) s₁ := by
  intro H hO hS hok hA hK
  have base_of : ∀ {b : Addr} {o : Obj}, s₁.heap.get? b = some o → H b = none → (hidT s₁.heap H).get? b = some o := fun e n => zalj e n
  have noA : ∀ {b : Addr} {o : Obj} {es : Array DictEntry} {ep : Nat}, s₁.heap.get? b = some o → o.data = .dict es ep → H b = none := fun {b o es ep} e d => by
   cases q : H b with
   | none => rfl
   | some u =>
    have e' : b = a := hA b (by rw [q]; simp)
    subst e'
    rw [ha] at e; cases e
    have d' : Data.seq vs.toArray _ = Data.dict es ep := d
    cases d'
  have nsK : ∀ {b : Addr} {m : Str → Option Value}, s₁.heap.Ns b m → (hidT s₁.heap H).Ns b m := fun {b m} ⟨o, es, ep, e, d, r⟩ => ⟨o, es, ep, base_of e (noA e d), d, r⟩
  have hKb : K.In (hidT s₁.heap H) := fun b o e => base_of (KX b o e) (by
   cases q : H b with
   | none => rfl
   | some u =>
    have e' : b = a := hA b (by rw [q]; simp)
    subst e'
    rw [hK (by rw [q]; simp)] at e; cases e)
  have hM : Mod K mg (hidT s₁.heap H) := ⟨hKb, nsK hns, ⟨mb, nsK hb, hbb⟩, let ⟨mc, h1, h2⟩ := hlim; ⟨mc, nsK h1, h2⟩⟩
  have e0 : Env0 P w K mg (hidT s₁.heap H) callerA [] s₁ H := ⟨rfl, hM, fun b o e => zanc e, Nat.le_of_eq (zaju _ _), trivial, fun b hb => absurd (show b ∈ ([] : List Addr) from hb) (by simp), hok, .of_eq hg⟩
  refine codeAny_mono ((F _ hKb (nsK hns)).run callerA [] s₁ H ⟨[.ref a], []⟩ [.ref a] [.ref a] _ _ hr e0 (hbind s₁ (.ref a)) (.cons rfl .nil) (hsp H hO hS)) fun r s' h => ?_
  cases r with
  | error e => exact (hCX H e s' h).elim
  | ok fl =>
   cases fl with
   | next => exact False.elim h
   | brk => exact False.elim h
   | cont => exact False.elim h
   | ret u =>
    obtain ⟨v, H', os, bare, un, hok', r', q⟩ := h
    have q' : v = .bl true := q
    subst q'
    obtain rfl : u = Value.bool true := r'
    refine ⟨rfl, OldK.of_keep fun b o e => ?_, os, bare⟩
    cases q : H b with
    | none => exact un.keep b o e q (by intro z; exact absurd (show b ∈ ([] : List Addr) from z) (by simp)) (by simp)
    | some u =>
     rcases hO b with z | ⟨ob, xs, z⟩
     ·rw [q] at z; cases z
     ·have z2 := un.frzs b ob _ z
      obtain ⟨e1, _⟩ := hok b _ z
      obtain ⟨e2, _⟩ := hok' b _ z2
      rw [e] at e1; cases e1
      exact e2
 cases hk : K.lookup a with
 | some o =>
  have e := KX a o hk
  rw [ha] at e
  cases e
  refine core (fun _ => none) (fun _ => .inl rfl) (.inr ⟨_, vs.toArray, _, hk, rfl, rfl, rfl, by rw [List.size_toArray, lenV]; exact hl, by simpa using rv⟩) (fun b u z => by have z' : (none : Option HO) = some u := z; cases z') (fun b z => absurd rfl z) fun z => absurd rfl z
 | none =>
  refine core (fun b => if b = a then some (.frz { cls := .type "list", data := .seq vs.toArray } (.lst (ns.map V.int))) else none) (fun b => ?_) (.inl (.inr ⟨{ cls := .type "list", data := .seq vs.toArray }, if_pos rfl⟩)) (fun b u z => ?_) (fun b z => ?_) fun _ => hk
  ·by_cases hb : b = a
   ·exact .inr ⟨_, _, if_pos hb⟩
   ·exact .inl (if_neg hb)
  ·by_cases hb : b = a
   ·have z' := (if_pos hb).symm.trans z
    cases z'
    subst hb
    exact ⟨ha, by rw [List.length_map]; exact hl, vs, _, rv, ha⟩
   ·have z' := (if_neg hb).symm.trans z
    cases z'
  ·by_cases hb : b = a
   ·exact hb
   ·exact absurd (if_neg hb) z
abbrev KOf {K : PySem.W.Frag} {h : Heap} (_ : K.In h) : PySem.W.Frag := K
theorem zanw {l : PySem.W.OpenLaw} {n k : Nat} {q : Program} {loose : List Str} {XP : (Str → Option Value) → Heap → Prop} {YP : World → Heap → Prop} {d : DefRec} {K : Params → PySem.W.Frag} {CX : World → CXT} {sp : World → Sp} {x : Str}
  (hn : l.most = some n) (hn2 : n ≤ sizeLine) (hdf : d.params.defaults = []) (hr : Room k callerA)
  (hY : ∀ (w : World) (h : Heap), YP w h → (K w.params).In h)
  (F : ∀ (w : World) (mg : Str → Option Value) (fa : Addr) (h : Heap), (K w.params).In h → h.Ns mainGlobals mg → mg d.name = some (.ref fa) →
   ∃ fd : FuncData, (∀ (s : Shared) (u : Value), BindsTo s fd ⟨[u], []⟩ [(x, u)]) ∧
    ∀ base : Heap, (K w.params).In base → base.Ns mainGlobals mg → FnOk l.prog w (K w.params) mg base (CX w) k fa fd [x] (sp w))
  (hsp : ∀ (w : World) (H : Hp) (a : Addr) (ns : List Int), ns.length ≤ n → Only H → SqL (K w.params) H a (ns.map V.int) → sp w [.ref a] H (fun v _ => v = .bl true) fun _ _ _ => False)
  (hCX : ∀ (w : World) (H : Hp) (s : Shared) (e : Value) (s' : Shared), CX w [] H s (fun _ _ _ => False) e s' → False) :
  PySem.W.WalkO q loose XP YP l.row.toRowW d [] (fun f vs => PySem.call f vs) := by
 refine Att.attach_call hn hdf fun w s₀ s₁ mg mb fa o pm cd doc a vs ns G Y ho hd hcd hmg hobj hints hlen hg => ?_
 have KX := hY w _ Y
 obtain ⟨fd, hb, hF⟩ := F w mg fa _ KX G.T.g hmg
 exact zalu KX G.T.g G.T.b G.T.builtins G.T.nolimit hg hobj hints (Nat.le_trans hlen hn2) hr hF hb (fun H hO hS => hsp w H a ns hlen hO hS) fun H e s' => hCX w H s₁ e s'
theorem zalv {l : PySem.W.OpenLaw} {n k : Nat} {q : Program} {loose : List Str} {XP : (Str → Option Value) → Heap → Prop} {YP : World → Heap → Prop} {d : DefRec} {K : Params → PySem.W.Frag} {CX : CXT} {sp : PySem.W.Frag → Sp} {x : Str}
  (hn : l.most = some n) (hn2 : n ≤ sizeLine) (hdf : d.params.defaults = []) (hr : Room k callerA)
  (hY : ∀ (w : World) (h : Heap), YP w h → (K w.params).In h)
  (F : ∀ (w : World) (mg : Str → Option Value) (fa : Addr) (h : Heap), (K w.params).In h → h.Ns mainGlobals mg → mg d.name = some (.ref fa) →
   ∃ fd : FuncData, (∀ (s : Shared) (u : Value), BindsTo s fd ⟨[u], []⟩ [(x, u)]) ∧
    ∀ base : Heap, (K w.params).In base → base.Ns mainGlobals mg → FnOk l.prog w (K w.params) mg base CX k fa fd [x] (sp (K w.params)))
  (hsp : ∀ (K : PySem.W.Frag) (H : Hp) (a : Addr) (ns : List Int), ns.length ≤ n → Only H → SqL K H a (ns.map V.int) → sp K [.ref a] H (fun v _ => v = .bl true) fun _ _ _ => False)
  (hCX : ∀ (H : Hp) (s : Shared) (e : Value) (s' : Shared), CX [] H s (fun _ _ _ => False) e s' → False) :
  PySem.W.WalkO q loose XP YP l.row.toRowW d [] (fun f vs => PySem.call f vs) :=
 zanw (K := K) (CX := fun _ => CX) (sp := fun w => sp (K w.params)) hn hn2 hdf hr hY F (fun w H a ns h1 h2 h3 => hsp (K w.params) H a ns h1 h2 h3) fun _ H s e s' => hCX H s e s'
def inClass (s : Stmt) (j : Nat) : Stmt := match s with
 | .ClassDef _ _ _ body _ _ _ _ _ _ _ => body.getD j (.Pass ⟨0, 0, 0, 0⟩)
 | _ => .Pass ⟨0, 0, 0, 0⟩
def defArgs (s : Stmt) : Arguments := match s with
 | .FunctionDef _ a _ _ _ _ _ _ _ _ => a
 | _ => { posonlyargs := [], args := [], vararg := none, kwonlyargs := [], kw_defaults := [], kwarg := none, defaults := [] }
def defBody (s : Stmt) : List Stmt := match s with
 | .FunctionDef _ _ b _ _ _ _ _ _ _ => b
 | _ => []
def defScope (s : Stmt) : Scope := match s with
 | .FunctionDef _ _ _ _ _ _ sc _ _ _ => sc
 | _ => { kind := .function, names := [], isGenerator := false, isCoroutine := false }
abbrev CX0 : CXT := fun _ _ _ _ _ _ => False
abbrev E0 : XK := fun _ _ _ => False
theorem pass0 {X : Cx} : Passes CX0 X E0 := fun _ _ _ _ _ _ _ h => h.elim
structure Fun (K : PySem.W.Frag) (x qual : Str) (st : Stmt) (f : Addr) (fd : FuncData) : Prop where
 ex : ∃ (oc : Value) (od : Option Addr) (kV doc pm : Value) (an : Option Addr) (cdv ct : Value) (osl : Array (Option Value)),
  fd = PySem.W.fnOf x qual (defArgs st) (defBody st) (defScope st) .none kV doc pm an cdv ct ∧ K.lookup f = some ⟨oc, od, .func fd, osl⟩ ∧ PySem.W.codeIn K cdv qual = true
 kp : PySem.W.keepIn K (.ref f) = true
section
variable {P : Program} {w : World} {K : PySem.W.Frag} {mg : Str → Option Value} {base : Heap}
theorem Fun.ok {x qual : Str} {st : Stmt} {f : Addr} {fd : FuncData} {N ps : List Str} {k : Nat} {sp : Sp} (F : Fun K x qual st f fd) (S : FnScope N ps (defScope st)) (len : ∀ vs H Q E, sp vs H Q E → vs.length = ps.length)
  (hbody : ∀ (cdv : Value) (A : Around) (outer : List Env) (s : Shared) (H : Hp) (vs : List V) (Q : VK) (E : XK), Room k (A.deeper (envOfC qual (defScope st) s.heap.objs.size f cdv)) → sp vs H Q E →
   ∃ t, PSs (cxOf CX0 P w K mg base N qual (defScope st) f cdv A outer s H E).nox (defBody st) t ∧ t { nx := fun _ H' => Q .non H', rt := Q } (start N vs) H) : FnOk P w K mg base CX0 (k + 1) f fd ps sp := by
 obtain ⟨oc, od, kV, doc, pm, an, cdv, ct, osl, rfl, lk, hcd⟩ := F.ex
 refine zapz lk hcd S len fun A outer s H vs Q E hr hsp => ?_
 obtain ⟨t, h, q⟩ := hbody cdv A outer s H vs Q E hr hsp
 exact ⟨t, h.nox, q⟩
theorem Fun.binds {x qual : Str} {st : Stmt} {f : Addr} {fd : FuncData} {ps : List Str} (F : Fun K x qual st f fd)
  (h : ∀ (kV doc pm : Value) (an : Option Addr) (cdv ct : Value) (us : List Value), us.length = ps.length → bindArgs (PySem.W.fnOf x qual (defArgs st) (defBody st) (defScope st) .none kV doc pm an cdv ct) ⟨us, []⟩ = pure (ps.zip us)) : Binds K fd ps [] := by
 obtain ⟨oc, od, kV, doc, pm, an, cdv, ct, osl, rfl, lk, hcd⟩ := F.ex
 exact .all (h kV doc pm an cdv ct)
theorem zabk {x qual : Str} {st : Stmt} {f : Addr} {oc : Value} {od an : Option Addr} {osl : Array (Option Value)} {kV doc pm cdv ct : Value} (l : K.lookup f = some ⟨oc, od, .func (PySem.W.fnOf x qual (defArgs st) (defBody st) (defScope st) .none kV doc pm an cdv ct), osl⟩)
  (c : PySem.W.codeIn K cdv qual = true) (k : PySem.W.keepIn K (.ref f) = true) : Fun K x qual st f (PySem.W.fnOf x qual (defArgs st) (defBody st) (defScope st) .none kV doc pm an cdv ct) := ⟨⟨oc, od, kV, doc, pm, an, cdv, ct, osl, rfl, l, c⟩, k⟩
end
theorem zac8 {A : Around} {k : Nat} (hr : Room k A) : A.units + 1 < cLine := Nat.lt_of_le_of_lt (Nat.add_le_add_left (by decide : 1 ≤ 64) _) hr.units
section
variable {X : Cx}
end
theorem iteF {A B : Prop} (h : B) : if false = true then A else B := by
 rw [if_neg Bool.false_ne_true]
 exact h
theorem iteT {A B : Prop} (h : A) : if true = true then A else B := by
 rw [if_pos rfl]
 exact h
theorem ite2 {c A B : Prop} [Decidable c] (h1 : c → A) (h2 : ¬ c → B) : if c then A else B := by
 by_cases h : c
 ·rw [if_pos h]
  exact h1 h
 ·rw [if_neg h]
  exact h2 h
def Same (H H' : Hp) : Prop := ∀ b o, H b = some o → H' b = some o
end L2

namespace L2
open PySem PySem.Spec PyProof.Rows
section
variable {κ : Type} [DecidableEq κ]
def valV (kvs : List (κ × V)) (k : κ) : Option V := (kvs.find? fun kv => decide (kv.1 = k)).map (·.2)
def putK (kvs : List (κ × V)) (k : κ) (v : V) : List (κ × V) :=
 if (kvs.any fun kv => decide (kv.1 = k)) = true then kvs.map (fun kv => if kv.1 = k then (kv.1, v) else kv) else kvs ++ [(k, v)]
def dropK (kvs : List (κ × V)) (k : κ) : List (κ × V) := kvs.filter fun kv => decide (kv.1 ≠ k)
theorem zab2 {p : κ × V} {r : List (κ × V)} {k : κ} (e : p.1 = k) : valV (p :: r) k = some p.2 := by simp [valV, List.find?_cons, e]
theorem zabl {p : κ × V} {r : List (κ × V)} {k : κ} (e : ¬ p.1 = k) : valV (p :: r) k = valV r k := by simp [valV, List.find?_cons, e]
theorem zad6 (k : κ) : ∀ kvs : List (κ × V), (kvs.any fun kv => decide (kv.1 = k)) = (valV kvs k).isSome
 | [] => rfl
 | p :: r => by
  rw [List.any_cons]
  by_cases e : p.1 = k
  ·simp only [zab2 e, decide_eq_true e, Bool.true_or, Option.isSome_some]
  ·rw [zabl e, decide_eq_false e, Bool.false_or]; exact zad6 k r
theorem zaiu (k j : κ) (y : V) : ∀ kvs : List (κ × V), valV (kvs.map fun kv => if kv.1 = k then (kv.1, y) else kv) j = (valV kvs j).map fun x => if j = k then y else x
 | [] => rfl
 | p :: r => by
  have ih := zaiu k j y r
  rw [List.map_cons]
  by_cases h : p.1 = k
  ·rw [if_pos h]
   by_cases e : p.1 = j
   ·rw [zab2 (p := (p.1, y)) e, zab2 e, Option.map_some, if_pos (e.symm.trans h)]
   ·rw [zabl (p := (p.1, y)) e, zabl e, ih]
  ·rw [if_neg h]
   by_cases e : p.1 = j
   ·rw [zab2 (p := p) e, zab2 e, Option.map_some, if_neg (fun z => h (e.trans z))]
   ·rw [zabl (p := p) e, zabl e, ih]
theorem zahp (k j : κ) (y : V) : ∀ kvs : List (κ × V), valV kvs k = none → valV (kvs ++ [(k, y)]) j = if j = k then some y else valV kvs j
 | [], _ => by
  by_cases e : k = j
  ·rw [if_pos e.symm]; exact zab2 (p := (k, y)) e
  ·rw [if_neg (fun z => e z.symm)]; exact zabl (p := (k, y)) e
 | p :: r, hn => by
  rw [List.cons_append]
  have hk : ¬ p.1 = k := fun z => by rw [zab2 z] at hn; cases hn
  rw [zabl hk] at hn
  have ih := zahp k j y r hn
  by_cases e : p.1 = j
  ·rw [zab2 e, zab2 e, if_neg (fun z => hk (e.trans z))]
  ·rw [zabl e, zabl e, ih]
theorem zadv (kvs : List (κ × V)) (k j : κ) (y : V) : valV (putK kvs k y) j = if j = k then some y else valV kvs j := by
 unfold putK
 by_cases a : (kvs.any fun kv => decide (kv.1 = k)) = true
 ·rw [if_pos a, zaiu]
  rw [zad6] at a
  by_cases e : j = k
  ·obtain ⟨x, hx⟩ := Option.isSome_iff_exists.mp a
   rw [if_pos e, e, hx, Option.map_some, if_pos rfl]
  ·rw [if_neg e]
   cases valV kvs j with
   | none => rfl
   | some x => rw [Option.map_some, if_neg e]
 ·rw [if_neg a]
  refine zahp k j y kvs ?_
  rw [zad6] at a
  cases q : valV kvs k with
  | none => rfl
  | some x => rw [q] at a; exact (a rfl).elim
theorem zab6 (kvs : List (κ × V)) (k : κ) (v : V) : (putK kvs k v).length ≤ kvs.length + 1 := by
 unfold putK
 split
 ·rw [List.length_map]; omega
 ·rw [List.length_append, List.length_cons, List.length_nil]; omega
theorem zae8 {kvs : List (κ × V)} {k : κ} (v : V) (h : valV kvs k = none) : putK kvs k v = kvs ++ [(k, v)] := by
 unfold putK
 rw [zad6, h]
 exact if_neg (by decide)
theorem RelO.isSome_eq {o : Option V} {u : Option Value} (r : RelO o u) : o.isSome = u.isSome := by
 cases o with
 | none => cases u with
  | none => rfl
  | some _ => exact (show False from r).elim
 | some _ => cases u with
  | none => exact (show False from r).elim
  | some _ => rfl
theorem RelO.getD {o : Option V} {u : Option Value} {d : V} {d' : Value} (r : RelO o u) (rd : RelV d d') : RelV (o.getD d) (u.getD d') := by
 cases o with
 | none => cases u with
  | none => exact rd
  | some _ => exact (show False from r).elim
 | some _ => cases u with
  | none => exact (show False from r).elim
  | some _ => exact r
theorem KV.val {kvs : List (κ × V)} {vs : List (κ × Value)} (r : KV kvs vs) (k : κ) : RelO (valV kvs k) (valueAt vs k) := by
 unfold KV at r
 induction r with
 | nil => exact True.intro
 | @cons p q ps qs h t ih =>
  obtain ⟨h1, h2⟩ := h
  by_cases e : p.1 = k
  ·have e' : q.1 = k := h1.symm.trans e
   have b : valueAt (q :: qs) k = some q.2 := by simp [valueAt, List.find?_cons, e']
   rw [zab2 e, b]; exact h2
  ·have e' : ¬ q.1 = k := fun z => e (h1.trans z)
   have b : valueAt (q :: qs) k = valueAt qs k := by simp [valueAt, List.find?_cons, e']
   rw [zabl e, b]; exact ih
theorem KV.any {kvs : List (κ × V)} {vs : List (κ × Value)} (r : KV kvs vs) (k : κ) : (kvs.any fun kv => decide (kv.1 = k)) = vs.any fun kv => decide (kv.1 = k) := by
 unfold KV at r
 induction r with
 | nil => rfl
 | cons h t ih => rw [List.any_cons, List.any_cons, ih, h.1]
theorem KV.repl {kvs : List (κ × V)} {vs : List (κ × Value)} (r : KV kvs vs) (k : κ) {y : V} {u : Value} (ry : RelV y u) :
  KV (kvs.map fun kv => if kv.1 = k then (kv.1, y) else kv) (vs.map fun kv => if kv.1 = k then (kv.1, u) else kv) := by
 unfold KV at r ⊢
 induction r with
 | nil => exact .nil
 | @cons p q ps qs h t ih =>
  rw [List.map_cons, List.map_cons]
  refine .cons ?_ ih
  obtain ⟨h1, h2⟩ := h
  by_cases e : p.1 = k
  ·rw [if_pos e, if_pos (h1.symm.trans e)]; exact ⟨h1, ry⟩
  ·rw [if_neg e, if_neg (fun z => e (h1.trans z))]; exact ⟨h1, h2⟩
theorem KV.put {kvs : List (κ × V)} {vs : List (κ × Value)} (r : KV kvs vs) (k : κ) {y : V} {u : Value} (ry : RelV y u) : KV (putK kvs k y) (stored vs k u) := by
 unfold putK stored
 rw [r.any k]
 by_cases e : (vs.any fun kv => decide (kv.1 = k)) = true
 ·rw [if_pos e, if_pos e]; exact r.repl k ry
 ·rw [if_neg e, if_neg e]; exact Paired.snoc r ⟨rfl, ry⟩
theorem KV.length {kvs : List (κ × V)} {vs : List (κ × Value)} (r : KV kvs vs) : kvs.length = vs.length := Paired.length r
end
theorem zahq {P : Program} {w : World} {k : Key} {u : Value} (r : RelV (kV k) u) : (mixKind P w).is k u = true := by
 cases k with
 | inl i => obtain ⟨t, e⟩ := (show ∃ t, u = Value.int i t from r); subst e; exact zah1 P w i t
 | inr x => obtain ⟨t, e⟩ := (show ∃ t, u = Value.str x t from r); subst e; exact zah2 P w x t
theorem zahr {P : Program} {w : World} : ∀ {ks : List Key} {us : List Value}, Vals (ks.map kV) us → ItemsAre (mixKind P w) ks us
 | [], _, r => by rw [List.map_nil] at r; cases r; exact .nil
 | k :: ks, _, r => by
  rw [List.map_cons] at r
  cases r with
  | cons h t => exact .cons (zahq h) (zahr t)
abbrev KT (H : Hp) : List (List Key × V) → List (List Key × Addr × Value) → Prop := Paired fun p q => p.1 = q.1 ∧ H q.2.1 = some (.tup (p.1.map kV)) ∧ RelV p.2 q.2.2
theorem KT.val {H : Hp} {kvs : List (List Key × V)} {xs : List (List Key × Addr × Value)} (r : KT H kvs xs) (k : List Key) : RelO (valV kvs k) ((atKey xs k).map (·.2)) := by
 induction r with
 | nil => exact True.intro
 | @cons p q ps qs h t ih =>
  obtain ⟨h1, _, h2⟩ := h
  by_cases e : p.1 = k
  ·have e' : q.1 = k := h1.symm.trans e
   have b : atKey (q :: qs) k = some q.2 := by simp [atKey, List.find?_cons, e']
   rw [zab2 e, b]; exact h2
  ·have e' : ¬ q.1 = k := fun z => e (h1.trans z)
   have b : atKey (q :: qs) k = atKey qs k := by simp [atKey, List.find?_cons, e']
   rw [zabl e, b]; exact ih
theorem KT.repl {H : Hp} {kvs : List (List Key × V)} {xs : List (List Key × Addr × Value)} (r : KT H kvs xs) (k : List Key) {y : V} {u : Value} (ry : RelV y u) :
  KT H (kvs.map fun kv => if kv.1 = k then (kv.1, y) else kv) (xs.map (putAt k u)) := by
 induction r with
 | nil => exact .nil
 | @cons p q ps qs h t ih =>
  rw [List.map_cons, List.map_cons]
  refine .cons ?_ ih
  obtain ⟨h1, h2, h3⟩ := h
  unfold putAt
  by_cases e : p.1 = k
  ·rw [if_pos e, if_pos (h1.symm.trans e)]; exact ⟨h1, h2, ry⟩
  ·rw [if_neg e, if_neg (fun z => e (h1.trans z))]; exact ⟨h1, h2, h3⟩
theorem KT.put {H : Hp} {kvs : List (List Key × V)} {xs : List (List Key × Addr × Value)} (r : KT H kvs xs) (k : List Key) {b : Addr} {y : V} {u : Value} (hb : H b = some (.tup (k.map kV))) (ry : RelV y u) :
  KT H (putK kvs k y) (storedH xs k b u) := by
 have e : (kvs.any fun kv => decide (kv.1 = k)) = (atKey xs k).isSome := by
  rw [zad6, (r.val k).isSome_eq, Option.isSome_map]
 unfold putK storedH
 rw [e]
 by_cases q : (atKey xs k).isSome = true
 ·rw [if_pos q, if_pos q]; exact r.repl k ry
 ·rw [if_neg q, if_neg q]; exact Paired.snoc r ⟨rfl, hb, ry⟩
theorem KT.keeps {H H' : Hp} {kvs : List (List Key × V)} {xs : List (List Key × Addr × Value)} (r : KT H kvs xs) (ht : ∀ b ys, H b = some (.tup ys) → H' b = some (.tup ys)) : KT H' kvs xs :=
 Paired.mapP r fun _ _ z => ⟨z.1, ht _ _ z.2.1, z.2.2⟩
section
variable {P : Program} {w : World} {H : Hp} {h : Heap} {a : Addr}
theorem zap5 {u : HO} (ok : HOk P w H h) (e : Rd H a u) : ObjOk P w H h a u := e.ok ok
theorem zagn {kvs : List (Key × V)} (ok : HOk P w H h) (e : Rd H a (.dK kvs)) : kvs.length ≤ sizeLine ∧ (a == sysModules) = false ∧ ∃ vs, KV kvs vs ∧ h.DictOf (mixKind P w) a vs :=
 show ObjOk P w H h a (.dK kvs) from zap5 ok e
theorem zap6 {kvs : List (Key × V)} (ok : HOk P w H h) (e : H a = some (.dK kvs)) : kvs.length ≤ sizeLine ∧ (a == sysModules) = false ∧ ∃ vs, KV kvs vs ∧ h.DictOf (mixKind P w) a vs := zagn ok (.inl e)
theorem zaf5 {ks : List Key} (ok : HOk P w H h) (e : H a = some (.tup (ks.map kV))) : (tupleKind (mixKind P w)).is h ks a := by
 obtain ⟨_, its, r, o, h1, h2, n, h3⟩ := (show ObjOk P w H h a (.tup (ks.map kV)) from ok a _ e)
 exact ⟨o, its.toArray, n, h1, h2, h3, by simpa using zahr r⟩
theorem zah5 {kvs : List (List Key × V)} (ok : HOk P w H h) (e : Rd H a (.dT kvs)) : kvs.length ≤ sizeLine ∧ (a == sysModules) = false ∧
  ∃ xs, KT H kvs xs ∧ h.DictOfH (tupleKind (mixKind P w)) a xs := by
 obtain ⟨z, y, xs, r, o, es, ep, h1, h2, h3, h4, h5⟩ := (show ObjOk P w H h a (.dT kvs) from zap5 ok e)
 refine ⟨z, y, xs, r, o, es, ep, h1, h2, h3, h4, fun x hx => ?_, h5⟩
 have all : ∀ {l : List (List Key × V)} {m : List (List Key × Addr × Value)}, KT H l m → ∀ x ∈ m, (tupleKind (mixKind P w)).is h x.1 x.2.1 := by
  intro l m q
  induction q with
  | nil => intro x hx; exact nomatch hx
  | @cons p q ps qs hq t ih =>
   intro x hx
   rcases List.mem_cons.mp hx with e | hx
   ·subst e
    exact zaf5 ok (by rw [← hq.1]; exact hq.2.1)
   ·exact ih x hx
 exact all r x hx
theorem zarn {kvs : List (List Key × V)} (ok : HOk P w H h) (e : H a = some (.dT kvs)) : kvs.length ≤ sizeLine ∧ (a == sysModules) = false ∧
  ∃ xs, KT H kvs xs ∧ h.DictOfH (tupleKind (mixKind P w)) a xs := zah5 ok (.inl e)
end
def DGet (H : Hp) (a : Addr) (y : V) (r : Option V) : Prop :=
 (∃ kvs k, Rd H a (.dK kvs) ∧ y = kV k ∧ r = valV kvs k) ∨ ∃ kvs k b, Rd H a (.dT kvs) ∧ y = .ref b ∧ H b = some (.tup (k.map kV)) ∧ r = valV kvs k
def DPut (H : Hp) (a : Addr) (y v : V) (H' : Hp) : Prop :=
 (∃ kvs k, H a = some (.dK kvs) ∧ y = kV k ∧ kvs.length < sizeLine ∧ H' = upd H a (.dK (putK kvs k v))) ∨
 ∃ kvs k b, H a = some (.dT kvs) ∧ y = .ref b ∧ H b = some (.tup (k.map kV)) ∧ kvs.length < sizeLine ∧ H' = upd H a (.dT (putK kvs k v))
theorem DGet.k {H : Hp} {a : Addr} {kvs : List (Key × V)} {k : Key} (e : H a = some (.dK kvs)) : DGet H a (kV k) (valV kvs k) := .inl ⟨kvs, k, .inl e, rfl, rfl⟩
theorem DPut.k {H : Hp} {a : Addr} {kvs : List (Key × V)} {k : Key} {v : V} (e : H a = some (.dK kvs)) (hl : kvs.length < sizeLine) : DPut H a (kV k) v (upd H a (.dK (putK kvs k v))) := .inl ⟨kvs, k, e, rfl, hl, rfl⟩
section
variable {X : Cx} {pins : List (Addr × Obj)} {σ : St} {H : Hp} {s : Shared} {a : Addr} {y v : V} {u r : Value} {o : Option V} {A : Around} {E : Value → Shared → Prop}
theorem Inv.big (I : Inv X pins σ H s) : sysModules < s.heap.objs.size := by
 have h : mainGlobals < s.heap.objs.size := (I.mod.glob.keeps I.bk).lt
 exact Nat.lt_trans (by decide) h
theorem zake {Q : Value → Shared → Prop} (hu : A.units + 1 < cLine) (I : Inv X pins σ H s) (g : DGet H a y (some v)) (ry : RelV y u) (h : ∀ w' s', Inv X pins σ H s' → RelV v w' → Q w' s') :
  wpAny (model X.prog X.w) A (getItem (.ref a) u) Q E s := by
 rcases g with ⟨kvs, k, e, ey, l⟩ | ⟨kvs, k, b, e, ey, eb, l⟩
 ·subst ey
  obtain ⟨z, hd, vs, rel, dd⟩ := zagn I.hok e
  obtain ⟨w', hw, rw'⟩ := RelO.some_of (v := v) (o := valueAt vs k) (by rw [l]; exact rel.val k)
  exact wpAny_getItem_of (zahq ry) dd.mapOf hw (h w' _ (I.tok _) rw')
 ·subst ey
  cases (show u = Value.ref b from ry)
  obtain ⟨z, hd, xs, rel, dd⟩ := zah5 I.hok e
  obtain ⟨w', hw, rw'⟩ := RelO.some_of (v := v) (o := (atKey xs k).map (·.2)) (by rw [l]; exact rel.val k)
  obtain ⟨p, hp, hp2⟩ := Option.map_eq_some_iff.mp hw
  refine wpAny_getItem_heap (tupleKind_room_in1 hu) (zaf5 I.hok eb) dd hp ?_
  rw [hp2]
  exact h w' _ (I.tok _) rw'
theorem d_in {Q : Value → Shared → Prop} (hu : A.units + 1 < cLine) (I : Inv X pins σ H s) (g : DGet H a y o) (ry : RelV y u) (h : ∀ s', Inv X pins σ H s' → Q (.bool o.isSome) s') :
  wpAny (model X.prog X.w) A (compareOp .In u (.ref a)) Q E s := by
 rcases g with ⟨kvs, k, e, ey, l⟩ | ⟨kvs, k, b, e, ey, eb, l⟩
 ·subst ey
  obtain ⟨z, hd, vs, rel, dd⟩ := zagn I.hok e
  refine wpAny_in_of (zahq ry) hd dd.mapOf ?_
  rw [← (rel.val k).isSome_eq, ← l]
  exact h _ (I.tok _)
 ·subst ey
  cases (show u = Value.ref b from ry)
  obtain ⟨z, hd, xs, rel, dd⟩ := zah5 I.hok e
  refine wpAny_in_heap (tupleKind_room_in1 hu) (zaf5 I.hok eb) hd dd ?_
  have q := (rel.val k).isSome_eq
  rw [Option.isSome_map] at q
  rw [← q, ← l]
  exact h _ (I.tok _)
theorem zanx {Q : Value → Shared → Prop} (hu : A.units + 1 < cLine) (I : Inv X pins σ H s) (g : DGet H a y o) (ry : RelV y u) (h : ∀ s', Inv X pins σ H s' → Q (.bool (!o.isSome)) s') :
  wpAny (model X.prog X.w) A (compareOp .NotIn u (.ref a)) Q E s := by
 rcases g with ⟨kvs, k, e, ey, l⟩ | ⟨kvs, k, b, e, ey, eb, l⟩
 ·subst ey
  obtain ⟨z, hd, vs, rel, dd⟩ := zagn I.hok e
  refine wpAny_notIn_of (zahq ry) hd dd.mapOf ?_
  rw [← (rel.val k).isSome_eq, ← l]
  exact h _ (I.tok _)
 ·subst ey
  cases (show u = Value.ref b from ry)
  obtain ⟨z, hd, xs, rel, dd⟩ := zah5 I.hok e
  refine wpAny_notIn_heap (tupleKind_room_in1 hu) (zaf5 I.hok eb) hd dd ?_
  have q := (rel.val k).isSome_eq
  rw [Option.isSome_map] at q
  rw [← q, ← l]
  exact h _ (I.tok _)
theorem zah6 {h' : Heap} {t' : Nat} {ob : HO} (I : Inv X pins σ H s) (mu : Mut (H a)) (hs : Heap.SameBut a s.heap h') (he : ∃ q, h'.get? a = some q) (new : ObjOk X.prog X.w (upd H a ob) h' a ob) :
  Inv X pins σ (upd H a ob) { s with heap := h', toks := t' } :=
 I.write (x := a) (e := a) mu (.inl rfl) (fun b q hb z => (hs.2 b hb).trans z) he new
theorem zamy {P : Program} {w : World} {H' : Hp} {h' : Heap} {kvs : List (Key × V)} {vs : List (Key × Value)} (z : kvs.length ≤ sizeLine) (hd : (a == sysModules) = false) (rel : KV kvs vs) (dd : h'.DictOf (mixKind P w) a vs) :
  ObjOk P w H' h' a (.dK kvs) := ⟨z, hd, vs, rel, dd⟩
theorem zakf {H' : Hp} {Q : Unit → Shared → Prop} (hu : A.units + 1 < cLine) (I : Inv X pins σ H s) (g : DPut H a y v H') (ry : RelV y u) (rv : RelV v r) (h : ∀ s', Inv X pins σ H' s' → Q () s') :
  wpAny (model X.prog X.w) A (setItem (.ref a) u r) Q E s := by
 rcases g with ⟨kvs, k, e, ey, l, eH⟩ | ⟨kvs, k, b, e, ey, eb, l, eH⟩
 ·subst ey eH
  obtain ⟨z, hd, vs, rel, dd⟩ := zap6 I.hok e
  have hz : vs.length ≤ sizeLine := by rw [← rel.length]; exact z
  have hl : (putK kvs k v).length ≤ sizeLine := by have := zab6 kvs k v; omega
  refine wpAny_setItem_pairs (hsz := hz) (zahq ry) dd fun h' dd' hs => h _ ?_
  have he : ∃ q, h'.get? a = some q := let ⟨q, _, _, hq, _⟩ := dd'; ⟨q, hq⟩
  exact zah6 I (by rw [e]; exact True.intro) hs he (zamy hl hd (rel.put k rv) dd')
 ·subst ey eH
  cases (show u = Value.ref b from ry)
  obtain ⟨z, hd, xs, rel, dd⟩ := zarn I.hok e
  have hz : xs.length ≤ sizeLine := by rw [← Paired.length rel]; exact z
  have hl : (putK kvs k v).length ≤ sizeLine := by have := zab6 kvs k v; omega
  refine wpAny_setItem_heap (hsz := hz) (tupleKind_room_in1 hu) (zaf5 I.hok eb) dd fun h' dd' hs => h _ ?_
  obtain ⟨q, es, ep, hq, h2, h3, h4, _, h5⟩ := dd'
  refine zah6 I (by rw [e]; exact True.intro) hs ⟨q, hq⟩ ⟨hl, hd, _, (rel.put k eb rv).keeps fun c ys ec => ?_, q, es, ep, hq, h2, h3, h4, h5⟩
  rw [zaav (zacc ec e (fun z => nomatch z))]
  exact ec
end
section
variable {X : Cx} {pins : List (Addr × Obj)} {σ : St} {H : Hp} {s : Shared} {a : Addr} {kvs : List (Key × V)} {k : Key} {u : Value} {A : Around} {E : Value → Shared → Prop}
theorem zaro {Q : Value → Shared → Prop} (I : Inv X pins σ H s) (e : Rd H a (.dK kvs)) (h : ∀ t s', Inv X pins σ H s' → Q (.int kvs.length t) s') : wpAny (model X.prog X.w) A (call (.builtin "len") [.ref a]) Q E s := by
 obtain ⟨z, hd, vs, rel, dd⟩ := zagn I.hok e
 refine call_len_dict hd dd (by rw [← rel.length]; rw [sizeLine_eq] at z; omega) ?_
 rw [← rel.length]
 exact h _ _ (I.tok _)
end
def NoSl (i : Expr) : Prop := ∀ ov iv, subscripted i false ov iv = operate [ov, iv] (getItem ov iv)
theorem zakg {prog : Program} {w : World} {A : Around} {E : Value → Shared → Prop} {s : Shared} {env : Env} {value slice : Expr} {pos : Pos} {T id : String} {Q : Value → Shared → Prop}
  (hl : typeLookup (.type T) "__getitem__" = pure (some (.builtin id))) (hs : NoSl slice)
  (h : wpAny (model prog w) A (eval value env) (fun o s₁ => wpAny (model prog w) A (eval slice env) (fun i s₂ => s₂.TypeIs o T ∧ wpAny (model prog w) A (getItem o i) Q E s₂) E s₁) E s) :
  wpAny (model prog w) A (eval (.Subscript value slice pos) env) Q E s := by
 refine Subscript_ (wpAny_mono h (fun o s₁ h₁ => wpAny_mono h₁ (fun i s₂ h₂ => ?_) fun _ _ x => x) fun _ _ x => x)
 obtain ⟨hT, h₂⟩ := h₂
 unfold subscriptTail
 refine wpAny_bind ?_
 rw [getitemInPython_of_ne hT.not_modules]
 refine wpAny_bind (wpAny_specialOf hT hl ?_)
 have fin : wpAny (model prog w) A (subscripted slice false o i) (fun r s₃ => wpAny (model prog w) A (letTemporaryGo value o r >>= fun _ => pure r) Q E s₃) E s₂ := by
  rw [hs o i]
  exact wpAny_operating (wpAny_mono h₂ (fun r s₃ h₃ => wpAny_bind (wpAny_letTemporaryGo (wpAny_pure h₃))) fun _ _ x => x)
 first
  | exact wpAny_pure (wpAny_bind fin)
  | exact wpAny_bind (wpAny_pure (wpAny_bind fin))
  | exact wpAny_bind fin
theorem zah7 {X : Cx} {pins : List (Addr × Obj)} {σ : St} {H : Hp} {s : Shared} {a : Addr} {y : V} {o : Option V} (I : Inv X pins σ H s) (g : DGet H a y o) : s.TypeIs (.ref a) "dict" := by
 rcases g with ⟨kvs, k, e, _, _⟩ | ⟨kvs, k, b, e, _, _, _⟩
 ·obtain ⟨_, _, vs, _, dd⟩ := zagn I.hok e
  exact dd.typeIs
 ·obtain ⟨_, _, xs, _, dd⟩ := zah5 I.hok e
  exact dd.typeIs
def tDGet (td ty : TE) : TE := fun σ H Q => td σ H fun x H1 => ty σ H1 fun y H2 => ∃ a v, x = .ref a ∧ DGet H2 a y (some v) ∧ Q v H2
def tDIn (ty td : TE) : TE := fun σ H Q => ty σ H fun y H1 => td σ H1 fun x H2 => ∃ a o, x = .ref a ∧ DGet H2 a y o ∧ Q (.bl o.isSome) H2
def tDNotIn (ty td : TE) : TE := fun σ H Q => ty σ H fun y H1 => td σ H1 fun x H2 => ∃ a o, x = .ref a ∧ DGet H2 a y o ∧ Q (.bl (!o.isSome)) H2
def sDPut (td ty tv : TE) : TS := fun D σ H => tv σ H fun v H1 => td σ H1 fun x H2 => ty σ H2 fun y H3 => ∃ a H4, x = .ref a ∧ DPut H3 a y v H4 ∧ D.nx σ H4
def sDAug (td ty tv : TE) (rd : V → V → Hp → VK → Prop) : TS := fun D σ H => td σ H fun x H1 => ty σ H1 fun y H2 => ∃ a v, x = .ref a ∧ DGet H2 a y (some v) ∧
 tv σ H2 fun y2 H3 => rd v y2 H3 fun z H4 => ∃ H5, DPut H4 a y z H5 ∧ D.nx σ H5
def sDDel (td ty : TE) : TS := fun D σ H => td σ H fun x H1 => ty σ H1 fun y H2 => ∃ a kvs k, x = .ref a ∧ H2 a = some (.dK kvs) ∧ y = kV k ∧ (valV kvs k).isSome = true ∧ D.nx σ (upd H2 a (.dK (dropK kvs k)))
section
variable {X : Cx} {o i e value : Expr} {pos pos' tpos : Pos} {td ty tv : TE}
theorem zany (hu : X.A.units + 1 < cLine) (ho : PE X o td) (hi : PE X i ty) (hs : NoSl i) : PE X (.Subscript o i pos) (tDGet td ty) := by
 intro pins s σ H Q I h
 refine zakg PySem.F.slot_dict_getitem.lookup hs (thn (ho pins s σ H _ I h) fun u s1 ⟨x, H1, I1, rx, q1⟩ => thn (hi pins s1 σ H1 _ I1 q1) fun iv s2 ⟨y, H2, I2, ry, a, v, ex, g, q2⟩ => ?_)
 subst ex
 obtain rfl : u = Value.ref a := rx
 exact ⟨zah7 I2 g, zake hu I2 g ry fun w' s3 I3 rw' => ⟨v, H2, I3, rw', q2⟩⟩
theorem zap7 (hu : X.A.units + 1 < cLine) (hi : PE X i ty) (ho : PE X o td) : PC X .In i o (tDIn ty td) := by
 intro pins s σ H Q I h
 refine thn (hi pins s σ H _ I h) fun iv s1 ⟨y, H1, I1, ry, q1⟩ => thn (ho pins s1 σ H1 _ I1 q1) fun u s2 ⟨x, H2, I2, rx, a, ov, ex, g, q2⟩ => ?_
 subst ex
 obtain rfl : u = Value.ref a := rx
 exact d_in hu I2 g ry fun s3 I3 => ⟨.bl ov.isSome, H2, I3, rfl, q2⟩
theorem zahs (hu : X.A.units + 1 < cLine) (hi : PE X i ty) (ho : PE X o td) : PC X .NotIn i o (tDNotIn ty td) := by
 intro pins s σ H Q I h
 refine thn (hi pins s σ H _ I h) fun iv s1 ⟨y, H1, I1, ry, q1⟩ => thn (ho pins s1 σ H1 _ I1 q1) fun u s2 ⟨x, H2, I2, rx, a, ov, ex, g, q2⟩ => ?_
 subst ex
 obtain rfl : u = Value.ref a := rx
 exact zanx hu I2 g ry fun s3 I3 => ⟨.bl (!ov.isSome), H2, I3, rfl, q2⟩
theorem zanz (hu : X.A.units + 1 < cLine) (ho : PE X o td) (hi : PE X i ty) (hv : PE X value tv) (hs : swapsWith value (some (.Subscript o i pos')) pos.line X.env = pure false) :
  PS X (.Assign [.Subscript o i pos'] value pos) (sDPut td ty tv) := by
 intro pins s σ H D I h
 refine wpAny_Assign_Subscript (thn (hv pins s σ H _ I h) fun r s1 ⟨v, H1, I1, rv, q1⟩ => thn (ho pins s1 σ H1 _ I1 q1) fun u s2 ⟨x, H2, I2, rx, q2⟩ => thn (hi pins s2 σ H2 _ I2 q2) fun iv s3 ⟨y, H3, I3, ry, a, H4, ex, g, q3⟩ => ?_) hs
 subst ex
 obtain rfl : u = Value.ref a := rx
 exact zakf hu I3 g ry rv fun s4 I4 => ⟨σ, H4, I4, q3⟩
end
theorem zaiv {P : Program} {w : World} {H : Hp} (h : Heap) (hb : sysModules < h.objs.size) : ObjOk P w H (h.push { cls := .type "dict", data := .dict #[] }) h.objs.size (.dK []) :=
 ⟨Nat.zero_le _, beq_eq_false_iff_ne.mpr (Ne.symm (Nat.ne_of_lt hb)), [], .nil, Heap.DictOf.new h⟩
def tDNewK : TE := fun _ H Q => ∀ p, H p = none → Q (.ref p) (upd H p (.dK []))
def tDNewT : TE := fun _ H Q => ∀ p, H p = none → Q (.ref p) (upd H p (.dT []))
section
variable {X : Cx} {pos : Pos}
theorem zalw : PE X (.Dict [] [] pos) tDNewK := fun pins s σ H Q I h =>
 wpAny_Dict_empty ⟨.ref s.heap.objs.size, _, I.laid (a := s.heap.objs.size) (o := .dK []) (t' := s.toks) (fun _ _ q => Heap.get?_push_of_some _ q) (Nat.le_refl _) (zaiv s.heap I.big), rfl, h _ (I.hok.fresh (Nat.le_refl _))⟩
end
def tPairs : List (TE × TE) → St → Hp → (List (V × V) → Hp → Prop) → Prop
 | [], _, H, Q => Q [] H
 | (tk, tv) :: r, σ, H, Q => tk σ H fun x H1 => tv σ H1 fun y H2 => tPairs r σ H2 fun ps H3 => Q ((x, y) :: ps) H3
abbrev VV : List (V × V) → List (Value × Value) → Prop := Paired fun p q => RelV p.1 q.1 ∧ RelV p.2 q.2
def PPs (X : Cx) (pos : Pos) (keys : List (Option Expr)) (values : List Expr) (trs : List (TE × TE)) : Prop :=
 ∀ (pins : List (Addr × Obj)) (s : Shared) (σ : St) (H : Hp) (Q : List (V × V) → Hp → Prop), Inv X pins σ H s → tPairs trs σ H Q →
  wpAny (model X.prog X.w) X.A (evalPairs (pairTrees keys values X.env pos)) (fun vs s' => ∃ ps H', Inv X pins σ H' s' ∧ VV ps vs ∧ Q ps H') X.xe s
theorem zan0 {X : Cx} {pos : Pos} : PPs X pos [] [] [] := fun pins s σ H Q I h => pairTrees_nil_walk ⟨[], H, I, .nil, h⟩
theorem zalx {X : Cx} {pos : Pos} {k v : Expr} {ks : List (Option Expr)} {vs : List Expr} {tk tv : TE} {trs : List (TE × TE)} (hk : PE X k tk) (hv : PE X v tv) (hr : PPs X pos ks vs trs) :
  PPs X pos (some k :: ks) (v :: vs) ((tk, tv) :: trs) := fun pins s σ H Q I h =>
 pairTrees_cons_walk (thn (hk pins s σ H _ I h) fun u s1 ⟨x, H1, I1, rx, q1⟩ => thn (hv pins s1 σ H1 _ I1 q1) fun w2 s2 ⟨y, H2, I2, ry, q2⟩ =>
  thn (hr pins s2 σ H2 _ I2 q2) fun ws s3 ⟨ps, H3, I3, rel, q3⟩ => ⟨(x, y) :: ps, H3, I3, .cons ⟨rx, ry⟩ rel, q3⟩)
def mergeK (kvs more : List (Key × V)) : List (Key × V) := more.foldl (fun acc kv => putK acc kv.1 kv.2) kvs
theorem KV.merge : ∀ {more : List (Key × V)} {rs : List (Key × Value)} {kvs : List (Key × V)} {vs : List (Key × Value)}, KV more rs → KV kvs vs → KV (mergeK kvs more) (merged vs rs) := by
 intro more rs kvs vs r
 unfold KV at r
 induction r generalizing kvs vs with
 | nil => intro q; exact q
 | @cons p q ps qs h t ih =>
  intro r0
  have e : KV (putK kvs p.1 p.2) (stored vs q.1 q.2) := by
   have := r0.put p.1 h.2
   rw [← h.1]; exact this
  exact ih e
theorem zad7 : ∀ (more kvs : List (Key × V)), (mergeK kvs more).length ≤ kvs.length + more.length
 | [], kvs => by show kvs.length ≤ kvs.length + 0; omega
 | p :: r, kvs => by
  have h1 := zad7 r (putK kvs p.1 p.2)
  have h2 := zab6 kvs p.1 p.2
  show (mergeK (putK kvs p.1 p.2) r).length ≤ _
  rw [List.length_cons]; omega
theorem zaf6 {P : Program} {w : World} : ∀ {kvs : List (Key × V)} {ws : List (Value × Value)}, VV (kvs.map fun kv => (kV kv.1, kv.2)) ws → ∃ rs, Carries (mixKind P w) ws rs ∧ KV kvs rs
 | [], _, r => by rw [List.map_nil] at r; cases r; exact ⟨[], True.intro, .nil⟩
 | p :: kvs, _, r => by
  rw [List.map_cons] at r
  cases r with
  | @cons a b as bs h t =>
   obtain ⟨rs, c, q⟩ := zaf6 (P := P) (w := w) t
   obtain ⟨b1, b2⟩ := b
   exact ⟨(p.1, b2) :: rs, ⟨zahq h.1, rfl, c⟩, .cons ⟨rfl, h.2⟩ q⟩
def tDisp (trs : List (TE × TE)) : TE := fun σ H Q => ∀ p, H p = none → tPairs trs σ (upd H p (.dK [])) fun ps H2 => H2 p = some (.dK []) ∧ ∃ kvs : List (Key × V), ps = kvs.map (fun kv => (kV kv.1, kv.2)) ∧ kvs.length ≤ 15 ∧ Q (.ref p) (upd H2 p (.dK (mergeK [] kvs)))
theorem zan1 {X : Cx} {pos : Pos} {keys : List (Option Expr)} {values : List Expr} {trs : List (TE × TE)} (h : PPs X pos keys values trs) (hall : keys.all (·.isSome) = true) (hl : keys.length = values.length) (h0 : keys ≠ [])
  (h15 : keys.length ≤ 15) : PE X (.Dict keys values pos) (tDisp trs) := by
 intro pins s σ H Q I q
 have hn := I.hok.fresh (Nat.le_refl s.heap.objs.size)
 have I1 := I.laid (a := s.heap.objs.size) (o := .dK []) (h' := s.heap.push { cls := .type "dict", data := .dict #[] }) (t' := s.toks) (fun _ _ q => Heap.get?_push_of_some _ q) (Nat.le_refl _) (zaiv s.heap I.big)
 refine wpAny_Dict_walk (knd := mixKind X.prog X.w) hall hl h0 h15 (thn (h pins _ σ _ _ I1 (q _ hn)) fun ws s2 ⟨ps, H2, I2, rel, e, kvs, ep, lk, q2⟩ => ?_)
 subst ep
 obtain ⟨rs, c, rk⟩ := zaf6 (P := X.prog) (w := X.w) rel
 obtain ⟨z, hd, vs0, r0, dd⟩ := zap6 I2.hok e
 cases r0
 refine ⟨rs, c, dd, fun h' dd' hs => ⟨.ref s.heap.objs.size, _, ?_, rfl, q2⟩⟩
 have hz : (mergeK [] kvs).length ≤ sizeLine := by
  have h1 := zad7 kvs []
  rw [List.length_nil] at h1
  rw [sizeLine_eq]; omega
 have he : ∃ q, h'.get? s.heap.objs.size = some q := let ⟨q, _, _, hq, _⟩ := dd'; ⟨q, hq⟩
 exact zah6 I2 (by rw [e]; exact True.intro) hs he (zamy hz hd (rk.merge .nil) dd')
structure M1 (X : Cx) (o : Expr) (m : Str) (apos : Pos) (e : Expr) (cpos : Pos) : Prop where
 base : attributeBase o m X.env (eval o X.env) = eval o X.env
 few : ((backTo cpos (starEach [e] X.env)).all (fun x => !x.1) && (backToKw cpos (keywordEach [] X.env)).all (fun x => x.1.isSome)
  && decide (([e] : List Expr).length + ([] : List Keyword).length + (if ([] : List Keyword).isEmpty then 0 else 1) < 30)) = true
 line : (apos.endLine == cpos.line) = true
 trees : backTo cpos (starEach [e] X.env) = [(false, eval e X.env)]
structure M2 (X : Cx) (o : Expr) (m : Str) (apos : Pos) (e f : Expr) (cpos : Pos) : Prop where
 base : attributeBase o m X.env (eval o X.env) = eval o X.env
 few : ((backTo cpos (starEach [e, f] X.env)).all (fun x => !x.1) && (backToKw cpos (keywordEach [] X.env)).all (fun x => x.1.isSome)
  && decide (([e, f] : List Expr).length + ([] : List Keyword).length + (if ([] : List Keyword).isEmpty then 0 else 1) < 30)) = true
 line : (apos.endLine == cpos.line) = true
 trees : backTo cpos (starEach [e, f] X.env) = [(false, eval e X.env), (false, eval f X.env)]
def IsD (H : Hp) (a : Addr) : Prop := (∃ kvs, Rd H a (.dK kvs)) ∨ ∃ kvs, Rd H a (.dT kvs)
theorem zap8 {X : Cx} {pins : List (Addr × Obj)} {σ : St} {H : Hp} {s : Shared} {a : Addr} (I : Inv X pins σ H s) (d : IsD H a) :
  s.TypeIs (.ref a) "dict" ∧ (∀ b, Value.ref a = .ref b → ∃ ob, s.heap.get? b = some ob ∧ ob.dict = none) ∧ (a == sysModules) = false := by
 rcases d with ⟨kvs, e⟩ | ⟨kvs, e⟩
 ·obtain ⟨_, hd, vs, _, dd⟩ := zagn I.hok e
  refine ⟨dd.typeIs, fun b q => ?_, hd⟩
  cases q
  obtain ⟨ob, _, _, h1, h2, _⟩ := dd
  exact ⟨ob, h1, h2.2.1⟩
 ·obtain ⟨_, hd, xs, _, dd⟩ := zah5 I.hok e
  refine ⟨dd.typeIs, fun b q => ?_, hd⟩
  cases q
  obtain ⟨ob, _, _, h1, h2, _⟩ := dd
  exact ⟨ob, h1, h2.2.1⟩
section
variable {X : Cx} {pins : List (Addr × Obj)} {σ : St} {H : Hp} {s : Shared} {a : Addr} {y d : V} {u r : Value} {o : Option V} {A : Around} {E : Value → Shared → Prop}
theorem zap9 {Q : Value → Shared → Prop} (hu : A.units + 1 < cLine) (I : Inv X pins σ H s) (g : DGet H a y o) (ry : RelV y u) (rd : RelV d r) (h : ∀ w' s', Inv X pins σ H s' → RelV (o.getD d) w' → Q w' s') :
  wpAny (model X.prog X.w) A (call (.builtin "dict.get") [.ref a, u, r]) Q E s := by
 rcases g with ⟨kvs, k, e, ey, l⟩ | ⟨kvs, k, b, e, ey, eb, l⟩
 ·subst ey
  obtain ⟨z, hd, vs, rel, dd⟩ := zagn I.hok e
  refine call_meetsIn PySem.F.slot_dict_get dd.typeIs PySem.F.entry_dict_get (PySem.F.args_dict_get_3 _ _ _) (meets_dict_get_default (mixKind X.prog X.w) a (zahq ry) hd r) ⟨_, dd.mapOf, h _ _ (I.tok _) ?_⟩
  rw [l]
  exact (rel.val k).getD rd
 ·subst ey
  cases (show u = Value.ref b from ry)
  obtain ⟨z, hd, xs, rel, dd⟩ := zah5 I.hok e
  refine call_meetsIn PySem.F.slot_dict_get dd.typeIs PySem.F.entry_dict_get (PySem.F.args_dict_get_3 _ _ _) (meetsH_dict_get_default (tupleKind (mixKind X.prog X.w)) a b hd r) ⟨tupleKind_room_in1 hu, k, xs, zaf5 I.hok eb, dd, h _ _ (I.tok _) ?_⟩
  rw [l]
  exact (rel.val k).getD rd
end
def tDGet1 (td ty : TE) : TE := fun σ H Q => td σ H fun x H1 => ∃ a, x = .ref a ∧ IsD H1 a ∧ ty σ H1 fun y H2 => ∃ o, DGet H2 a y o ∧ Q (o.getD .non) H2
def tDGet2 (td ty tx : TE) : TE := fun σ H Q => td σ H fun x H1 => ∃ a, x = .ref a ∧ IsD H1 a ∧ ty σ H1 fun y H2 => tx σ H2 fun z H3 => ∃ o, DGet H3 a y o ∧ Q (o.getD z) H3
def tDPop1 (td ty : TE) : TE := fun σ H Q => td σ H fun x H1 => ∃ a, x = .ref a ∧ IsD H1 a ∧ ty σ H1 fun y H2 => ∃ kvs k v, H2 a = some (.dK kvs) ∧ y = kV k ∧ valV kvs k = some v ∧ Q v (upd H2 a (.dK (dropK kvs k)))
def tDPop2 (td ty tx : TE) : TE := fun σ H Q => td σ H fun x H1 => ∃ a, x = .ref a ∧ IsD H1 a ∧ ty σ H1 fun y H2 => tx σ H2 fun z H3 => ∃ kvs k, H3 a = some (.dK kvs) ∧ y = kV k ∧
 (∀ v, valV kvs k = some v → Q v (upd H3 a (.dK (dropK kvs k)))) ∧ (valV kvs k = none → Q z H3)
section
variable {X : Cx} {o e f : Expr} {apos cpos : Pos} {td ty tx : TE}
theorem zaly (hu : X.A.units + 1 < cLine) (ho : PE X o td) (he : PE X e ty) (hf : PE X f tx) (m : M2 X o "get" apos e f cpos) : PE X (.Call (.Attribute o "get" apos) [e, f] [] cpos) (tDGet2 td ty tx) := by
 intro pins s σ H Q I h
 refine wpAny_Call_method m.base m.few m.line PySem.F.plainAttrs_dict PySem.F.slot_dict_get PySem.F.type_dict_get (thn (ho pins s σ H _ I h) fun u s1 ⟨x, H1, I1, rx, a, ex, d, q1⟩ => ?_)
 subst ex
 obtain rfl : u = Value.ref a := rx
 obtain ⟨t1, t2, _⟩ := zap8 I1 d
 refine ⟨t1, t2, ?_⟩
 rw [m.trees]
 refine Calls.callWith_builtin rfl (Calls.evalArgs_plain (Calls.spliced_cons (thn (he pins s1 σ H1 _ I1 q1) fun iv s2 ⟨y, H2, I2, ry, q2⟩ =>
  Calls.spliced_cons (thn (hf pins s2 σ H2 _ I2 q2) fun fv s3 ⟨z, H3, I3, rz, ov, g, q3⟩ => Calls.spliced_nil ?_))))
 exact zap9 hu I3 g ry rz fun w' s4 I4 rw' => ⟨_, H3, I4, rw', q3⟩
end
section
variable {X : Cx} {pins : List (Addr × Obj)} {σ : St} {H : Hp} {s : Shared} {a : Addr} {kvs : List (Key × V)} {A : Around} {E : Value → Shared → Prop}
end
section
variable {X : Cx} {pins : List (Addr × Obj)} {σ : St} {H : Hp} {s : Shared} {a : Addr} {y : V} {u : Value} {A : Around} {E : Value → Shared → Prop}
end
section
variable {X : Cx}
theorem zafj : CallR X (.builtin "len") (fun xs H Q => ∃ a kvs, xs = [V.ref a] ∧ H a = some (.dK kvs) ∧ Q (.int kvs.length) H) := by
 intro pins s σ H xs us Q I r h
 obtain ⟨a, kvs, rfl, ha, q⟩ := h
 obtain ⟨u, rfl, ru⟩ := vals1 r
 cases ru
 exact zaro I (.inl ha) fun t s' I' => ⟨.int kvs.length, H, I', ⟨t, rfl⟩, q⟩
end
section
variable {κ : Type} [DecidableEq κ]
end
end L2

namespace L2
open PySem PySem.Spec PyProof.Rows
structure DefOk (P : Program) (w : World) (K : PySem.W.Frag) (mg : Str → Option Value) (base : Heap) (CX : CXT) (k : Nat) (x : Str) (ps : List Str) (sp : Sp) : Prop where
 ex : ∃ (f : Addr) (fd : FuncData), FnOk P w K mg base CX k f fd ps sp ∧ Binds K fd ps [] ∧ PySem.W.keepIn K (.ref f) = true ∧ mg x = some (.ref f)
theorem DefOk.mono {P : Program} {w : World} {K : PySem.W.Frag} {mg : Str → Option Value} {base : Heap} {CX : CXT} {j k : Nat} {x : Str} {ps : List Str} {sp : Sp} (D : DefOk P w K mg base CX j x ps sp) (h : j ≤ k) : DefOk P w K mg base CX k x ps sp := by
 obtain ⟨f, fd, F, b⟩ := D.ex
 exact ⟨f, fd, F.mono h, b⟩
section
variable {X : Cx} {CX : CXT} {k : Nat} {ps : List Str} {sp : Sp} {E : XK} {x : Str} {p pos : Pos} {e : Expr} {es : List Expr} {t : TA}
theorem zalz (D : DefOk X.prog X.w X.K X.mg X.base CX k x ps sp) (hr : Room k X.A) (hg : Gl X x) (hx : Passes CX X E) (ha : PA X (e :: es) t) (hdb : (x == ("__debug__" : Str)) = false := by decide)
  (he : starEach (e :: es) X.env = (false, eval e X.env) :: starEach es X.env := by rfl) (hpl : (backTo pos (starEach es X.env)).any (·.1) = false := by rfl) :
  PE X (.Call (.Name x p) (e :: es) [] pos) (tCall sp [] E t) := by
 obtain ⟨f, fd, F, b, kp, m⟩ := D.ex
 exact zanr F hr hg m kp b .nil hx ha hdb he hpl
end
def CDivW (_ j : Int) : Prop := 0 < j ∧ j < 2 ^ 64
theorem zack {X : Cx} : OpR X (binaryOp .FloorDiv) (rI CDivW fun i j => .int (i / j)) := opI fun i j _ _ _ _ _ hc q => by
 have h1 : (0 : Int) < j := hc.1
 have h2 : j < 2 ^ 64 := hc.2
 have h3 : j.natAbs.log2 < 64 := (Nat.log2_lt (by omega)).mpr (by omega)
 exact floordiv_int (by omega) (by rw [Int.fdiv_eq_ediv_of_nonneg i (by omega)]; exact q) (.inl (PyProof.noPylong_of_log2 (by omega)))
def Ch (W : List Addr) (H H' : Hp) : Prop := ∀ b o, H b = some o → b ∉ W → H' b = some o
theorem Ch.refl (W : List Addr) (H : Hp) : Ch W H H := fun _ _ h _ => h
theorem Ch.trans {W : List Addr} {H H1 H2 : Hp} (a : Ch W H H1) (b : Ch W H1 H2) : Ch W H H2 := fun c o h n => b c o (a c o h n) n
theorem Ch.get {W : List Addr} {H H' : Hp} {b : Addr} {o : HO} (c : Ch W H H') (h : H b = some o) (n : b ∉ W) : H' b = some o := c b o h n
theorem Ch.mono {W W' : List Addr} {H H' : Hp} (c : Ch W H H') (h : ∀ b ∈ W, b ∈ W') : Ch W' H H' := fun b o q n => c b o q fun z => n (h b z)
theorem Ch.wk {W : List Addr} {H H' : Hp} (c : Ch [] H H') : Ch W H H' := c.mono fun b h => nomatch h
theorem Ch.new {W : List Addr} {H : Hp} {p : Addr} (h : H p = none) (o : HO) : Ch W H (upd H p o) := fun b u q _ => by rw [zaav (zabe q h)]; exact q
theorem Ch.put {H : Hp} {p : Addr} {o : HO} : Ch [p] H (upd H p o) := fun b u q n => by rw [zaav (fun z => n (by simp [z]))]; exact q
def Scr (K : PySem.W.Frag) (H : Hp) (a : Addr) (ns : List Int) : Prop :=
 ns.length ≤ 63 ∧ ((∃ o, H a = some (.frz o (.lst (ns.map V.int)))) ∨
  ∃ (o : Obj) (its : Array Value) (n : Nat), K.lookup a = some o ∧ o.cls = .type "list" ∧ o.dict = none ∧ o.data = .seq its n ∧ its.size ≤ sizeLine ∧ Vals (ns.map V.int) its.toList)
theorem Scr.sq {K : PySem.W.Frag} {H : Hp} {a : Addr} {ns : List Int} (S : Scr K H a ns) : SqL K H a (ns.map V.int) := by
 rcases S.2 with ⟨o, h⟩ | h
 ·exact .inl (.inr ⟨o, h⟩)
 ·exact .inr h
theorem Scr.ch {K : PySem.W.Frag} {H H' : Hp} {a b : Addr} {ns : List Int} {xs : List V} (S : Scr K H a ns) (hb : H b = some (.lst xs)) (c : Ch [b] H H') : Scr K H' a ns := by
 refine ⟨S.1, ?_⟩
 rcases S.2 with ⟨o, h⟩ | h
 ·exact .inl ⟨o, c.get h (by
   intro z
   have e : a = b := by simpa using z
   subst e
   rw [h] at hb
   cases hb)⟩
 ·exact .inr h
theorem Scr.same {K : PySem.W.Frag} {H H' : Hp} {a : Addr} {ns : List Int} (S : Scr K H a ns) (c : Ch [] H H') : Scr K H' a ns := by
 refine ⟨S.1, ?_⟩
 rcases S.2 with ⟨o, h⟩ | h
 ·exact .inl ⟨o, c.get h (by simp)⟩
 ·exact .inr h
theorem Scr.of {K : PySem.W.Frag} {H : Hp} {a : Addr} {ns : List Int} (h : SqL K H a (ns.map V.int)) (hl : ns.length ≤ 63) (hO : Only H) : Scr K H a ns := by
 refine ⟨hl, ?_⟩
 rcases h with (h | ⟨o, h⟩) | h
 ·rcases hO a with z | ⟨o, xs, z⟩
  ·rw [h] at z; cases z
  ·rw [h] at z; cases z
 ·exact .inl ⟨o, h⟩
 ·exact .inr h
theorem zaa6 {H : Hp} {p q : Addr} {o u : HO} (hq : H q = none) (h : H p = some o) : upd H q u p = some o := by rw [zaav (zabe h hq)]; exact h
theorem zabc {H : Hp} {p q : Addr} {o u : HO} (n : p ≠ q) (h : H p = some o) : upd H q u p = some o := by rw [zaav n]; exact h
structure Loop (J : It) (g : TG) (tb : TS) (D : Ends) (σ : St) (H : Hp) : Prop where
 ex : ∃ W : Nat → Nat → St → Hp → Prop, (∃ m, W 0 m σ H) ∧ ∀ i m σ H, W i m σ H →
  (J.stop i H ∧ D.nx σ H) ∨ (J.go i H ∧ ∃ N : St → Hp → Prop, (∀ σ' H', N σ' H' → ∃ m', m' < m ∧ W (i + 1) m' σ' H') ∧ ∀ x H', J.yld i H x H' → g x σ H' fun σ2 H2 => tb { D with nx := N, ct := N, bk := D.nx } σ2 H2)
def tLoop (wi : TI) (g : TG) (tb : TS) : TS := fun D σ H => wi σ H fun J H1 => Loop J g tb D σ H1
theorem zan2 {X : Cx} {tg iter : Expr} {body : List Stmt} {wi : TI} {g : TG} {tb : TS} {pos : Pos} (hp : PassesOwn (model X.prog X.w) X.A X.env X.xe) (hc : X.calm = true) (hi : PI X tg iter wi) (hg : PG X tg g) (hb : PSs X body tb)
  (hs : ∀ x, foldedSetIterable iter X.env x = pure x := by intro _; rfl) : PS X (.For tg iter body [] pos) (tLoop wi g tb) := by
 have hi' : PI X tg iter (fun σ H R => ∃ R0 : It → Hp → Prop, wi σ H R0 ∧ ∀ J H1, R0 J H1 → R J H1) := by
  intro pins s σ H R I ⟨R0, h, m⟩
  refine thn (hi pins s σ H _ I h) fun v s1 h1 => thn h1 fun itv s2 h2 => ?_
  obtain ⟨it, fp, tn, J, H2, e, I2, T, st2, f2, r⟩ := h2
  exact ⟨it, fp, tn, J, H2, e, I2, T, st2, f2, m _ _ r⟩
 intro pins s σ H D I h
 exact zapt hp hc hi' hg hb hs pins s σ H D I ⟨_, h, fun J H1 l => l.ex⟩
theorem zaht {K : PySem.W.Frag} {a : Addr} {xs : List V} {g : TG} {tb : TS} {D : Ends} {σ : St} {H : Hp} (Pv : Nat → St → Hp → Prop) (h0 : Pv 0 σ H) (hl : ∀ i σ H, i ≤ xs.length → Pv i σ H → SqL K H a xs)
  (hs : ∀ i x σ H, xs[i]? = some x → Pv i σ H → g x σ H fun σ2 H2 => tb { D with nx := Pv (i + 1), ct := Pv (i + 1), bk := D.nx } σ2 H2) (hd : ∀ σ H, Pv xs.length σ H → D.nx σ H) : Loop (Itl K a) g tb D σ H := ⟨zaln Pv h0 hl hs hd⟩
theorem zac2 {lo : Int} {n : Nat} {g : TG} {tb : TS} {D : Ends} {σ : St} {H : Hp} (Pv : Nat → St → Hp → Prop) (h0 : Pv 0 σ H)
  (hs : ∀ i σ H, i < n → Pv i σ H → g (.int (lo + i)) σ H fun σ2 H2 => tb { D with nx := Pv (i + 1), ct := Pv (i + 1), bk := D.nx } σ2 H2) (hd : ∀ σ H, Pv n σ H → D.nx σ H) : Loop (Itr lo n) g tb D σ H := ⟨zajz Pv h0 hs hd⟩
structure Cut (t u : TS) (D : Ends) (σ : St) (H : Hp) : Prop where
 ex : ∃ P : St → Hp → Prop, t { D with nx := P } σ H ∧ ∀ σ' H', P σ' H' → u D σ' H'
def tCut (t u : TS) : TS := fun D σ H => Cut t u D σ H
theorem zan3 {X : Cx} {st : Stmt} {rest : List Stmt} {t u : TS} (h1 : PS X st t) (h2 : PSs X rest u) : PSs X (st :: rest) (tCut t u) := by
 intro pins s σ H D I h
 obtain ⟨P, a, b⟩ := h.ex
 have h1' : PS X st (fun D' σ' H' => ∃ P : St → Hp → Prop, t { D' with nx := P } σ' H' ∧ ∀ σ2 H2, P σ2 H2 → D'.nx σ2 H2) := by
  intro pins s σ H D I ⟨P, a, b⟩
  refine thn (h1 pins s σ H _ I a) fun f s' q => ?_
  cases f with
  | next => obtain ⟨σ7, H7, I7, n7⟩ := q; exact ⟨σ7, H7, I7, b _ _ n7⟩
  | cont => exact q
  | brk => exact q
  | ret v => exact q
 exact zaiq h1' h2 pins s σ H D I ⟨P, a, b⟩
theorem zab7 {t u : TS} {D : Ends} {σ : St} {H : Hp} (P : St → Hp → Prop) (h1 : t { D with nx := P } σ H) (h2 : ∀ σ' H', P σ' H' → u D σ' H') : Cut t u D σ H := ⟨P, h1, h2⟩
theorem zaiw {ns : List Int} {i : Int} (h0 : 0 ≤ i) (h1 : i < (ns.length : Int)) : ∃ n : Int, atI (ns.map V.int) i = some (.int n) := by
 have hk : i.toNat < ns.length := by omega
 have ek : i = ((i.toNat : Nat) : Int) := by omega
 have q : atI (ns.map V.int) ((i.toNat : Nat) : Int) = some (.int ns[i.toNat]) := zadi (by rw [List.getElem?_map, List.getElem?_eq_getElem hk]; rfl)
 rw [← ek] at q
 exact ⟨_, q⟩
end L2

namespace L2
open PySem PySem.Spec PyProof.Rows
structure Atx {α : Type} (xs : List α) (i : Int) (R : α → Prop) : Prop where
 ex : ∃ v, atI xs i = some v ∧ R v
theorem Atx.of {α : Type} {xs : List α} {i : Int} {v : α} {R : α → Prop} (h : atI xs i = some v) (r : R v) : Atx xs i R := ⟨v, h, r⟩
section
variable {X : Cx}
theorem IxR.imp {r r' : R2} (h : IxR X r) (f : ∀ x y H Q, r' x y H Q → r x y H Q) : IxR X r' := fun value slice pins s σ H x y v u Q I rx ry q hs => h value slice pins s σ H x y v u Q I rx ry (f _ _ _ _ q) hs
def aIxL (K : PySem.W.Frag) : R2 := fun x y H Q => ∃ p xs i, x = .ref p ∧ y = .int i ∧ SqL K H p xs ∧ Atx xs i fun v => Q v H
def aIxT (K : PySem.W.Frag) : R2 := fun x y H Q => ∃ p xs i, x = .ref p ∧ y = .int i ∧ SqT K H p xs ∧ Atx xs i fun v => Q v H
def aIxS : R2 := fun x y H Q => ∃ z i, x = .str z ∧ y = .int i ∧ z.length ≤ sizeLine ∧ Atx z.cps.toList i fun c => Q (.str ⟨#[c]⟩) H
theorem zaaz : IxR X (aIxL X.K) := zanv.imp fun x y H Q ⟨p, xs, i, e1, e2, h, a⟩ => let ⟨v, hv, q⟩ := a.ex; ⟨p, xs, i, v, e1, e2, h, hv, q⟩
theorem zaat : IxR X (aIxT X.K) := zap1.imp fun x y H Q ⟨p, xs, i, e1, e2, h, a⟩ => let ⟨v, hv, q⟩ := a.ex; ⟨p, xs, i, v, e1, e2, h, hv, q⟩
theorem zafk : IxR X aIxS := zap2.imp fun x y H Q ⟨z, i, e1, e2, h, a⟩ => let ⟨v, hv, q⟩ := a.ex; ⟨z, i, v, e1, e2, h, hv, q⟩
end
end L2
namespace L2
open PySem
section
variable {es : List Expr} {env : Env}
theorem zaag {x pos} : starEach (.Name x pos :: es) env = (false, eval (.Name x pos) env) :: starEach es env := rfl
theorem zaae {c k pos} : starEach (.Constant c k pos :: es) env = (false, eval (.Constant c k pos) env) :: starEach es env := rfl
theorem zaa7 {a o b pos} : starEach (.BinOp a o b pos :: es) env = (false, eval (.BinOp a o b pos) env) :: starEach es env := rfl
theorem zaf7 {a o pos} : starEach (.UnaryOp o a pos :: es) env = (false, eval (.UnaryOp o a pos) env) :: starEach es env := rfl
theorem zab0 {a o b pos} : starEach (.Call a o b pos :: es) env = (false, eval (.Call a o b pos) env) :: starEach es env := rfl
theorem zaa8 {a k pos} : starEach (.Tuple a k pos :: es) env = (false, eval (.Tuple a k pos) env) :: starEach es env := rfl
theorem zacr {a pos} : starEach (.List a pos :: es) env = (false, eval (.List a pos) env) :: starEach es env := rfl
theorem zaas {a b pos} : starEach (.Subscript a b pos :: es) env = (false, eval (.Subscript a b pos) env) :: starEach es env := rfl
theorem zaf8 {a b c pos} : starEach (.Compare a b c pos :: es) env = (false, eval (.Compare a b c pos) env) :: starEach es env := rfl
theorem zac3 {a b pos} : starEach (.BoolOp a b pos :: es) env = (false, eval (.BoolOp a b pos) env) :: starEach es env := rfl
theorem zabx {a b pos} : starEach (.Attribute a b pos :: es) env = (false, eval (.Attribute a b pos) env) :: starEach es env := rfl
theorem zaby {a b c pos} : starEach (.ListComp a b c pos :: es) env = (false, eval (.ListComp a b c pos) env) :: starEach es env := rfl
end
end L2
namespace L2
open PySem
theorem Ch.own {W : List Addr} {H H' : Hp} {p : Addr} {o : HO} (n : H p = none) (c : Ch W H H') : Ch W H (upd H' p o) := fun b u h k => by
 rw [zaav (zabe h n)]
 exact c b u h k
theorem zal0 (x : V) (ys : List V) : ¬ (HT.sIx (x :: ys).length 0 (some 1) = 0 ∧ HT.sIx (x :: ys).length (x :: ys).length none = (x :: ys).length) := by
 intro h
 have e : HT.sIx (x :: ys).length 0 (some 1) = 1 := by
  have z := HT.sIx_nat (x :: ys).length 0 1
  rw [List.length_cons] at z ⊢
  refine z.trans ?_
  omega
 rw [e] at h
 exact absurd h.1 (by decide)
end L2
namespace L2
open PySem
theorem Atx.head {α : Type} {x : α} {xs : List α} {R : α → Prop} (r : R x) : Atx (x :: xs) 0 R := ⟨x, zadi (j := 0) rfl, r⟩
end L2

namespace L2
open PySem PySem.Spec PyProof.Rows
inductive SK where
 | list | tuple
def SIt (k : SK) (h : Heap) (it l : Addr) (i : Nat) : Prop := match k with
 | .list => h.IsListIter it l i
 | .tuple => h.IsTupleIter it l i
def SIs (k : SK) (h : Heap) (l : Addr) (items : Array Value) : Prop := match k with
 | .list => h.IsList l items
 | .tuple => h.IsTuple l items
def Sq (k : SK) (K : PySem.W.Frag) (H : Hp) (a : Addr) (xs : List V) : Prop := match k with
 | .list => SqL K H a xs
 | .tuple => SqT K H a xs
theorem SIt.at {k : SK} {h h' : Heap} {a l i} (x : SIt k h a l i) (e : ∀ o, h.get? a = some o → h'.get? a = some o) : SIt k h' a l i := by
 cases k with
 | list => exact Heap.IsListIter.at x e
 | tuple => exact Heap.IsTupleIter.at x e
theorem SIt.obj {k : SK} {h : Heap} {a l i} (x : SIt k h a l i) : ∃ o, h.get? a = some o ∧ ∀ v, o.data ≠ .cell v := by
 cases k with
 | list => obtain ⟨o, e, c, d⟩ := (show h.IsListIter a l i from x); exact ⟨o, e, fun v z => by rw [d] at z; cases z⟩
 | tuple => obtain ⟨o, e, c, d⟩ := (show h.IsTupleIter a l i from x); exact ⟨o, e, fun v z => by rw [d] at z; cases z⟩
theorem SIs.at {k : SK} {h h' : Heap} {a items} (x : SIs k h a items) (e : ∀ o, h.get? a = some o → h'.get? a = some o) : SIs k h' a items := by
 cases k with
 | list => exact Heap.IsList.at x e
 | tuple => obtain ⟨o, ho, r⟩ := (show h.IsTuple a items from x); exact ⟨o, e _ ho, r⟩
theorem SIs.lt {k : SK} {h : Heap} {a items} (x : SIs k h a items) : a < h.objs.size := by
 cases k with
 | list => obtain ⟨_, e, _⟩ := (show h.IsList a items from x); exact Heap.lt_size e
 | tuple => obtain ⟨_, e, _⟩ := (show h.IsTuple a items from x); exact Heap.lt_size e
section
variable {prog : Program} {w : World} {A : Around} {E : Value → Shared → Prop} {s : Shared}
theorem zaei {it l : Addr} {i : Nat} {items} {x : Value} {Q : Value → Shared → Prop} (hit : s.heap.IsTupleIter it l i)
  (hl : s.heap.IsTuple l items) (hx : items[i]? = some x)
  (hQ : ∀ h', h'.IsTupleIter it l (i + 1) → Heap.SameBut it s.heap h' → Q x { s with heap := h' }) :
  wpAny (model prog w) A (Builtin.SmallTypes.nextOf (.ref it)) Q E s := by
 obtain ⟨o, ho, hc, hd⟩ := id hit
 obtain ⟨ol, hol, _, nl, hdl⟩ := hl
 unfold Builtin.SmallTypes.nextOf
 refine wpAny_bind (wpAny_callSpecial?_slot (name := Str.ofString "__next__") hit.typeIs F.slot_tuple_iterator_next
  (wpAny_call_entry F.slot_tuple_iterator_next hit.typeIs F.entry_tuple_iterator_next ?_ (F.args_tuple_iterator_next_1 _)))
 show wpAny _ _ (field (.ref it) 0 >>= _) _ _ s
 refine wpAny_bind (wpAny_field ho hd (x := .ref l) rfl ?_)
 show wpAny _ _ (if (Value.ref l == Value.none) = true then _ else _) _ _ s
 rw [if_neg (show ¬ ((Value.ref l == Value.none) = true) from Bool.false_ne_true)]
 show wpAny _ _ (field (.ref it) 1 >>= _) _ _ s
 refine wpAny_bind (wpAny_field ho hd (x := .int i 0) rfl ?_)
 show wpAny _ _ (seqItems? (.ref l) >>= _) _ _ s
 refine wpAny_bind (wpAny_seqItems hol hdl ?_)
 simp only [Int.toNat_natCast, hx]
 refine wpAny_bind (wpAny_setField ho hd (by simp) (wpAny_pure ⟨x, rfl, wpAny_pure (hQ _ ?_ (Heap.SameBut.update ..))⟩))
 exact ⟨_, Heap.get?_update_self _ ho (Obj.isFreed_of_fields (Obj.data_mapFields hd _)), (Obj.cls_mapFields ..).trans hc, by
  rw [Obj.data_mapFields hd]; simp [rawInt]⟩
theorem zae5 {it l : Addr} {i : Nat} {items} {Q : Value → Shared → Prop} (hh : A.handled = none)
  (hit : s.heap.IsTupleIter it l i) (hl : s.heap.IsTuple l items) (hx : items[i]? = none)
  (hE : ∀ h' e, Heap.ExtBut it s.heap h' → (∃ o, h'.get? e = some o ∧ o.cls = .type "StopIteration") → E (.ref e) { s with heap := h' }) :
  wpAny (model prog w) A (Builtin.SmallTypes.nextOf (.ref it)) Q E s := by
 obtain ⟨o, ho, hc, hd⟩ := id hit
 obtain ⟨ol, hol, _, nl, hdl⟩ := hl
 unfold Builtin.SmallTypes.nextOf
 refine wpAny_bind (wpAny_callSpecial?_slot (name := Str.ofString "__next__") hit.typeIs F.slot_tuple_iterator_next
  (wpAny_call_entry F.slot_tuple_iterator_next hit.typeIs F.entry_tuple_iterator_next ?_ (F.args_tuple_iterator_next_1 _)))
 show wpAny _ _ (field (.ref it) 0 >>= _) _ _ s
 refine wpAny_bind (wpAny_field ho hd (x := .ref l) rfl ?_)
 show wpAny _ _ (if (Value.ref l == Value.none) = true then _ else _) _ _ s
 rw [if_neg (show ¬ ((Value.ref l == Value.none) = true) from Bool.false_ne_true)]
 show wpAny _ _ (field (.ref it) 1 >>= _) _ _ s
 refine wpAny_bind (wpAny_field ho hd (x := .int i 0) rfl ?_)
 show wpAny _ _ (seqItems? (.ref l) >>= _) _ _ s
 refine wpAny_bind (wpAny_seqItems hol hdl ?_)
 simp only [Int.toNat_natCast, hx]
 refine wpAny_bind (wpAny_rule (wpAny_bind (wpAny_setField ho hd (by simp) ?_)))
 show wpAny _ _ (newExc (.type "StopIteration") [] >>= _) _ _ _
 refine wpAny_bind ?_
 simp only [newExc, newTuple]
 refine wpAny_bind (wpAny_newObj_type ?_ (by size_fits))
 refine wpAny_bind (m := firstArgMember _ _) (wpAny_of_eq (a := Value.none) (by first | rfl | (simp only [firstArgMember]; rfl)) ?_)
 refine wpAny_newObj_type ?_ (by size_fits)
 simp only [raiseNew]
 refine wpAny_bind (wpAny_handled ?_)
 first | rw [show A.in1.handled = none from hh] | rw [hh]
 refine wpAny_bind (wpAny_pure (wpAny_throw ?_))
 exact hE _ _ (((Heap.SameBut.update ..).extBut.push _).push _) ⟨_, Heap.get?_push_size _ rfl, rfl⟩
theorem zac9 {k : SK} {it l : Addr} {i : Nat} {items} {x : Value} {Q : Value → Shared → Prop} (hit : SIt k s.heap it l i) (hl : SIs k s.heap l items) (hx : items[i]? = some x)
  (hQ : ∀ h', SIt k h' it l (i + 1) → Heap.SameBut it s.heap h' → Q x { s with heap := h' }) : wpAny (model prog w) A (Builtin.SmallTypes.nextOf (.ref it)) Q E s := by
 cases k with
 | list => exact wpAny_nextOf_list_item hit hl hx hQ
 | tuple => exact zaei hit hl hx hQ
theorem zaej {k : SK} {it l : Addr} {i : Nat} {items} {Q : Value → Shared → Prop} (hh : A.handled = none) (hit : SIt k s.heap it l i) (hl : SIs k s.heap l items) (hx : items[i]? = none)
  (hE : ∀ h' e, Heap.ExtBut it s.heap h' → (∃ o, h'.get? e = some o ∧ o.cls = .type "StopIteration") → E (.ref e) { s with heap := h' }) :
  wpAny (model prog w) A (Builtin.SmallTypes.nextOf (.ref it)) Q E s := by
 cases k with
 | list => exact wpAny_nextOf_list_end hh hit hl hx hE
 | tuple => exact zae5 hh hit hl hx hE
theorem SIt.ext {k : SK} {h h' : Heap} {a b l i} (x : SIt k h a l i) (hs : Heap.ExtBut b h h') (hab : a ≠ b) : SIt k h' a l i := x.at fun o e => hs _ _ hab e
theorem SIs.ext {k : SK} {h h' : Heap} {a b items} (x : SIs k h a items) (hs : Heap.ExtBut b h h') (hab : a ≠ b) : SIs k h' a items := x.at fun o e => hs _ _ hab e
theorem zakh {k1 k2 : SK} {z TI TO i1 i2 l1 l2 : Addr} {n1 n2 : Nat} {xs ys : Array Value} {x y a b : Value} {Q : Value → Shared → Prop} (D : ZipApart z TI TO i1 i2 l1 l2)
  (hz : IsZip s.heap z TI TO .none) (hTI : IsPair s.heap TI (.ref i1) (.ref i2)) (hTO : IsPair s.heap TO a b)
  (h1 : SIt k1 s.heap i1 l1 n1) (h2 : SIt k2 s.heap i2 l2 n2) (hl1 : SIs k1 s.heap l1 xs) (hl2 : SIs k2 s.heap l2 ys) (hx : xs[n1]? = some x) (hy : ys[n2]? = some y)
  (hQ : ∀ h', IsZip h' z TI TO (rawInt s.heap.objs.size) → IsPair h' TO x y → SIt k1 h' i1 l1 (n1 + 1) → SIt k2 h' i2 l2 (n2 + 1) → IsPair h' s.heap.objs.size x y → h'.objs.size = s.heap.objs.size + 1 →
   (∀ c o, c ≠ z → c ≠ TO → c ≠ i1 → c ≠ i2 → s.heap.get? c = some o → h'.get? c = some o) → Q (.ref s.heap.objs.size) { s with heap := h' }) :
  wpAny (model prog w) A (Builtin.«zip.__next__» ⟨[.ref z], []⟩) (fun fin s' => ∃ v, fin = .done (.ret v) ∧ Q v s') E s := by
 show wpAny _ _ (field (.ref z) 2 >>= _) _ _ _
 refine wpAny_bind (wpAny_field hz rfl (x := .bool false) rfl ?_)
 show wpAny _ _ (field (.ref z) 3 >>= _) _ _ _
 refine wpAny_bind (wpAny_field hz rfl (x := .ref TI) rfl ?_)
 refine wpAny_bind (wpAny_seqItems hTI rfl ?_)
 show wpAny _ _ (Builtin.SmallTypes.ownedTupleIsFree (.ref z) >>= _) _ _ _
 refine wpAny_bind ?_
 unfold Builtin.SmallTypes.ownedTupleIsFree
 refine wpAny_bind (wpAny_field hz rfl (x := .none) rfl (wpAny_pure ?_))
 simp only [if_true]
 refine wpAny_bind (wpAny_rule ?_)
 refine wpAny_bind (wpAny_field hz rfl (x := .ref TO) rfl ?_)
 refine wpAny_bind (wpAny_setField_rec hz (by simp) fun h₁ hz₁ hs₁ => ?_)
 replace hz₁ : IsZip h₁ z TI TO .ellipsis := hz₁
 refine wpAny_bind ?_
 simp only [List.zipIdx_cons, List.zipIdx_nil, List.forIn_cons, List.forIn_nil]
 refine wpAny_bind (wpAny_bind (wpAny_onRaise ?_))
 show wpAny _ _ (Builtin.SmallTypes.nextOf (.ref i1) >>= _) _ _ _
 refine wpAny_bind (zac9 (h1.ext hs₁.extBut D.i1z) (hl1.ext hs₁.extBut D.l1z) hx fun h₂ h1₂ hs₂ => wpAny_pure ?_)
 have hTO₂ : IsPair h₂ TO a b := hs₂.extBut _ _ D.TOi1 (hs₁.extBut _ _ D.TOz hTO)
 refine wpAny_bind (wpAny_seqItems hTO₂ rfl ?_)
 refine wpAny_bind (wpAny_updateSeq_pair hTO₂ fun h₃ hTO₃ hs₃ => ?_)
 replace hTO₃ : IsPair h₃ TO x b := hTO₃
 refine wpAny_bind (wpAny_letGo (wpAny_pure ?_))
 refine wpAny_bind (wpAny_bind (wpAny_onRaise ?_))
 show wpAny _ _ (Builtin.SmallTypes.nextOf (.ref i2) >>= _) _ _ _
 refine wpAny_bind (zac9 (((h2.ext hs₁.extBut D.i2z).ext hs₂.extBut D.i12.symm).ext hs₃.extBut D.TOi2.symm)
  (((hl2.ext hs₁.extBut D.l2z).ext hs₂.extBut D.l2i1).ext hs₃.extBut D.l2TO) hy fun h₄ h2₄ hs₄ => wpAny_pure ?_)
 have hTO₄ : IsPair h₄ TO x b := hs₄.extBut _ _ D.TOi2 hTO₃
 refine wpAny_bind (wpAny_seqItems hTO₄ rfl ?_)
 refine wpAny_bind (wpAny_updateSeq_pair hTO₄ fun h₅ hTO₅ hs₅ => ?_)
 replace hTO₅ : IsPair h₅ TO x y := hTO₅
 refine wpAny_bind (wpAny_letGo (wpAny_pure (wpAny_pure ?_)))
 refine wpAny_bind (wpAny_seqItems hTO₅ rfl ?_)
 refine wpAny_bind (wpAny_newTuple ?_)
 have hsz : h₅.objs.size = s.heap.objs.size := by rw [hs₅.1, hs₄.1, hs₃.1, hs₂.1, hs₁.1]
 have hz₅ : IsZip h₅ z TI TO .ellipsis := hs₅.extBut _ _ D.TOz.symm (hs₄.extBut _ _ D.i2z.symm (hs₃.extBut _ _ D.TOz.symm (hs₂.extBut _ _ D.i1z.symm hz₁)))
 have hk₅ : ∀ c o, c ≠ z → c ≠ TO → c ≠ i1 → c ≠ i2 → s.heap.get? c = some o → h₅.get? c = some o := fun c o c1 c2 c3 c4 e =>
  hs₅.extBut _ _ c2 (hs₄.extBut _ _ c4 (hs₃.extBut _ _ c2 (hs₂.extBut _ _ c3 (hs₁.extBut _ _ c1 e))))
 have h1₅ : SIt k1 h₅ i1 l1 (n1 + 1) := ((h1₂.ext hs₃.extBut D.TOi1.symm).ext hs₄.extBut D.i12).ext hs₅.extBut D.TOi1.symm
 have h2₅ : SIt k2 h₅ i2 l2 (n2 + 1) := h2₄.ext hs₅.extBut D.TOi2.symm
 have hzlt : z < h₅.objs.size := Heap.lt_size hz₅
 show wpAny _ _ (Builtin.SmallTypes.ownedTupleHandOut (.ref z) (.ref h₅.objs.size) >>= _) _ _ _
 refine wpAny_bind ?_
 unfold Builtin.SmallTypes.ownedTupleHandOut
 have hz₆ : IsZip (h₅.push { cls := .type "tuple", data := .seq #[x, y] }) z TI TO .ellipsis := Heap.get?_push_of_some _ hz₅
 refine wpAny_bind (wpAny_setField_rec hz₆ (by simp) fun h₇ hz₇ hs₇ => ?_)
 replace hz₇ : IsZip h₇ z TI TO (rawInt h₅.objs.size) := hz₇
 refine wpAny_setField_rec hz₇ (by simp) fun h₈ hz₈ hs₈ => ?_
 replace hz₈ : IsZip h₈ z TI TO (rawInt h₅.objs.size) := hz₈
 have up : ∀ c o, c ≠ z → h₅.get? c = some o → h₈.get? c = some o := fun c o c1 e => hs₈.extBut _ _ c1 (hs₇.extBut _ _ c1 (Heap.get?_push_of_some _ e))
 have hT₈ : IsPair h₈ h₅.objs.size x y := hs₈.extBut _ _ (Nat.ne_of_gt hzlt) (hs₇.extBut _ _ (Nat.ne_of_gt hzlt) (Heap.get?_push_size _ rfl))
 have hz8 : h₈.objs.size = h₅.objs.size + 1 := by rw [hs₈.1, hs₇.1, Heap.size_push]
 rw [hsz] at hz₈ hT₈ hz8
 refine wpAny_pure ⟨_, rfl, ?_⟩
 show Q (.ref h₅.objs.size) _
 rw [hsz]
 exact hQ h₈ hz₈ (up _ _ D.TOz hTO₅) (h1₅.at fun o e => up _ o D.i1z e) (h2₅.at fun o e => up _ o D.i2z e) hT₈ hz8 fun c o c1 c2 c3 c4 e => up c o c1 (hk₅ c o c1 c2 c3 c4 e)
theorem zal1 {k1 k2 : SK} {z TI TO i1 i2 l1 l2 : Addr} {n1 n2 : Nat} {xs ys : Array Value} {a b : Value} {Q : Fin → Shared → Prop} (hh : A.handled = none) (D : ZipApart z TI TO i1 i2 l1 l2)
  (hz : IsZip s.heap z TI TO .none) (hTI : IsPair s.heap TI (.ref i1) (.ref i2)) (hTO : IsPair s.heap TO a b)
  (h1 : SIt k1 s.heap i1 l1 n1) (h2 : SIt k2 s.heap i2 l2 n2) (hl1 : SIs k1 s.heap l1 xs) (hl2 : SIs k2 s.heap l2 ys) (hend : xs[n1]? = none ∨ ys[n2]? = none)
  (hE : ∀ h' e, (∀ c o, c ≠ z → c ≠ TO → c ≠ i1 → c ≠ i2 → s.heap.get? c = some o → h'.get? c = some o) → (∃ o, h'.get? e = some o ∧ o.cls = .type "StopIteration") → E (.ref e) { s with heap := h' }) :
  wpAny (model prog w) A (Builtin.«zip.__next__» ⟨[.ref z], []⟩) Q E s := by
 show wpAny _ _ (field (.ref z) 2 >>= _) _ _ _
 refine wpAny_bind (wpAny_field hz rfl (x := .bool false) rfl ?_)
 show wpAny _ _ (field (.ref z) 3 >>= _) _ _ _
 refine wpAny_bind (wpAny_field hz rfl (x := .ref TI) rfl ?_)
 refine wpAny_bind (wpAny_seqItems hTI rfl ?_)
 show wpAny _ _ (Builtin.SmallTypes.ownedTupleIsFree (.ref z) >>= _) _ _ _
 refine wpAny_bind ?_
 unfold Builtin.SmallTypes.ownedTupleIsFree
 refine wpAny_bind (wpAny_field hz rfl (x := .none) rfl (wpAny_pure ?_))
 simp only [if_true]
 refine wpAny_bind (wpAny_rule ?_)
 refine wpAny_bind (wpAny_field hz rfl (x := .ref TO) rfl ?_)
 refine wpAny_bind (wpAny_setField_rec hz (by simp) fun h₁ hz₁ hs₁ => ?_)
 replace hz₁ : IsZip h₁ z TI TO .ellipsis := hz₁
 refine wpAny_bind ?_
 simp only [List.zipIdx_cons, List.zipIdx_nil, List.forIn_cons, List.forIn_nil]
 refine wpAny_bind (wpAny_bind (wpAny_onRaise ?_))
 show wpAny _ _ (Builtin.SmallTypes.nextOf (.ref i1) >>= _) _ _ _
 cases hx : xs[n1]? with
 | none =>
  refine wpAny_bind (zaej hh (h1.ext hs₁.extBut D.i1z) (hl1.ext hs₁.extBut D.l1z) hx fun h₂ e hs₂ he => ?_)
  obtain ⟨oe, hoe, hce⟩ := he
  have hz₂ : IsZip h₂ z TI TO .ellipsis := hs₂ _ _ D.i1z.symm hz₁
  have hez : e ≠ z := fun x => by subst x; rw [hz₂] at hoe; cases hoe; simp at hce
  refine wpAny_setField_rec hz₂ (by simp) fun h₃ _ hs₃ => hE h₃ e (fun c o c1 _ c3 _ x => hs₃.extBut _ _ c1 (hs₂ _ _ c3 (hs₁.extBut _ _ c1 x))) ⟨oe, hs₃.extBut _ _ hez hoe, hce⟩
 | some x =>
  have hy : ys[n2]? = none := by rcases hend with h | h; rw [hx] at h; cases h; exact h
  refine wpAny_bind (zac9 (h1.ext hs₁.extBut D.i1z) (hl1.ext hs₁.extBut D.l1z) hx fun h₂ h1₂ hs₂ => wpAny_pure ?_)
  have hTO₂ : IsPair h₂ TO a b := hs₂.extBut _ _ D.TOi1 (hs₁.extBut _ _ D.TOz hTO)
  refine wpAny_bind (wpAny_seqItems hTO₂ rfl ?_)
  refine wpAny_bind (wpAny_updateSeq_pair hTO₂ fun h₃ hTO₃ hs₃ => ?_)
  refine wpAny_bind (wpAny_letGo (wpAny_pure ?_))
  refine wpAny_bind (wpAny_bind (wpAny_onRaise ?_))
  show wpAny _ _ (Builtin.SmallTypes.nextOf (.ref i2) >>= _) _ _ _
  refine wpAny_bind (zaej hh (((h2.ext hs₁.extBut D.i2z).ext hs₂.extBut D.i12.symm).ext hs₃.extBut D.TOi2.symm)
   (((hl2.ext hs₁.extBut D.l2z).ext hs₂.extBut D.l2i1).ext hs₃.extBut D.l2TO) hy fun h₄ e hs₄ he => ?_)
  obtain ⟨oe, hoe, hce⟩ := he
  have hz₄ : IsZip h₄ z TI TO .ellipsis := hs₄ _ _ D.i2z.symm (hs₃.extBut _ _ D.TOz.symm (hs₂.extBut _ _ D.i1z.symm hz₁))
  have hez : e ≠ z := fun x => by subst x; rw [hz₄] at hoe; cases hoe; simp at hce
  refine wpAny_setField_rec hz₄ (by simp) fun h₅ _ hs₅ => hE h₅ e (fun c o c1 c2 c3 c4 x => hs₅.extBut _ _ c1 (hs₄ _ _ c4 (hs₃.extBut _ _ c2 (hs₂.extBut _ _ c3 (hs₁.extBut _ _ c1 x))))) ⟨oe, hs₅.extBut _ _ hez hoe, hce⟩
end
section
variable {X : Cx} {pins : List (Addr × Obj)} {σ : List (Option V)} {H H' : Hp} {s : Shared} {h' : Heap}
theorem Inv.turnedL {t' : Nat} {its : List Addr} (I : Inv X pins σ H s) (k : ∀ b o, b ∉ its → s.heap.get? b = some o → h'.get? b = some o) (hf : ∀ b ∈ its, FpOk X pins H b) : Inv X pins σ H { s with heap := h', toks := t' } := by
 have nit : ∀ b u, H b = some u → b ∉ its := fun b u e z => by rw [(hf b z).1] at e; cases e
 refine I.step (g' := s.gens) (d' := s.drawn) (ch := its) (fun b hb => ?_) (fun b o _ _ hc e _ => k b o hc e) (fun b o _ _ hc e _ => ⟨o.slots, k b o hc e⟩) (fun _ _ _ _ n => n)
  (fun b o hc e => ⟨o, k b o hc e⟩) (fun _ _ e => e) (fun _ _ _ e => e) (fun b ps e => ⟨#[], by rw [e]; simp⟩) (fun m hm => ?_) (fun b u e => ?_) I.bare
 ·obtain ⟨f0, f1, f2, f3, f4, f5⟩ := hf b hb
  exact ⟨f3, f1, f4, f5⟩
 ·obtain ⟨o, es, ep, ho, r⟩ := hm
  exact ⟨o, es, ep, k _ o (fun z => (hf _ z).2.1 rfl) ho, r⟩
 ·refine (I.hok b u e).stay (fun c v hc q => k c v ?_ q) (fun _ q => q) fun _ _ q => q
  rcases hc with z | z
  ·rw [z]; exact nit b u e
  ·exact nit c _ z
theorem Inv.turnedNew {t' : Nat} {its : List Addr} {T : Addr} {o : HO} (I : Inv X pins σ H s) (k : ∀ b ob, b ∉ its → s.heap.get? b = some ob → h'.get? b = some ob) (hf : ∀ b ∈ its, FpOk X pins H b)
  (hT : s.heap.objs.size ≤ T) (new : ObjOk X.prog X.w (upd H T o) h' T o) : Inv X pins σ (upd H T o) { s with heap := h', toks := t' } := by
 have nit : ∀ b u, H b = some u → b ∉ its := fun b u e z => by rw [(hf b z).1] at e; cases e
 have hn : H T = none := I.hok.fresh hT
 have neT : ∀ b ob, s.heap.get? b = some ob → b ≠ T := fun b ob e => Nat.ne_of_lt (Nat.lt_of_lt_of_le (Heap.lt_size e) hT)
 have up : ∀ b u, H b = some u → upd H T o b = some u := fun b u e => by rw [zaav (zabe e hn)]; exact e
 refine I.step (g' := s.gens) (d' := s.drawn) (ch := its) (fun b hb => ?_) (fun b ob _ _ hc e _ => k b ob hc e) (fun b ob _ _ hc e _ => ⟨ob.slots, k b ob hc e⟩) (fun b ob _ e n => by rw [zaav (neT b ob e)]; exact n)
  (fun b ob hc e => ⟨ob, k b ob hc e⟩) (fun b _ e => up b _ e) (fun b _ _ e => up b _ e) (fun b ps e => ⟨#[], by rw [up b _ e]; simp⟩) (fun m hm => ?_) (fun b u e => ?_) I.bare
 ·obtain ⟨f0, f1, f2, f3, f4, f5⟩ := hf b hb
  exact ⟨f3, f1, f4, f5⟩
 ·obtain ⟨ob, es, ep, ho, r⟩ := hm
  exact ⟨ob, es, ep, k _ ob (fun z => (hf _ z).2.1 rfl) ho, r⟩
 ·by_cases hb : b = T
  ·subst hb; rw [zaah] at e; cases e; exact new
  ·rw [zaav hb] at e
   refine (I.hok b u e).stay (fun c v hc q => k c v ?_ q) (fun c q => up c _ q) fun c xs q => up c _ q
   rcases hc with z | z
   ·rw [z]; exact nit b u e
   ·exact nit c _ z
end
theorem Inv.sis {X : Cx} {pins : List (Addr × Obj)} {σ : St} {H : Hp} {s : Shared} {k : SK} {a : Addr} {xs : List V} (I : Inv X pins σ H s) (h : Sq k X.K H a xs) : ∃ its : List Value, Vals xs its ∧ SIs k s.heap a its.toArray := by
 cases k with
 | list => obtain ⟨its, r, p, _⟩ := I.list h; exact ⟨its, r, p.isList⟩
 | tuple => obtain ⟨its, r, p, _⟩ := I.tuple h; exact ⟨its, r, (show s.heap.IsTuple a its.toArray from p)⟩
theorem Inv.sq_inj {X : Cx} {pins : List (Addr × Obj)} {σ : St} {H : Hp} {s : Shared} {k : SK} {a : Addr} {xs ys : List V} (I : Inv X pins σ H s) (h : Sq k X.K H a xs) (h' : Sq k X.K H a ys) : xs = ys := by
 cases k with
 | list => exact I.list_inj h h'
 | tuple => exact I.tuple_inj h h'
def Itz (K : PySem.W.Frag) (k1 k2 : SK) (a b : Addr) : It :=
 ⟨fun i H => ∃ xs ys x y, Sq k1 K H a xs ∧ Sq k2 K H b ys ∧ xs[i]? = some x ∧ ys[i]? = some y,
  fun i H v H' => ∃ T, H T = none ∧ v = .ref T ∧ ∀ xs ys, Sq k1 K H a xs → Sq k2 K H b ys → ∃ x y, xs[i]? = some x ∧ ys[i]? = some y ∧ H' = upd H T (.tup [x, y]),
  fun i H => ∃ xs ys, Sq k1 K H a xs ∧ Sq k2 K H b ys ∧ (xs.length ≤ i ∨ ys.length ≤ i)⟩
theorem zal2 {P : Program} {w : World} {K : PySem.W.Frag} {elts : List Expr} {kk : Nat} {tpos : Pos} {k1 k2 : SK} {z TI TO i1 i2 a b : Addr} (D : ZipApart z TI TO i1 i2 a b) :
  Turn P w K (.Tuple elts kk tpos) (Itz K k1 k2 a b) [z, TI, TO, i1, i2] z (fun i h => IsZip h z TI TO .none ∧ IsPair h TI (.ref i1) (.ref i2) ∧ (∃ c d, IsPair h TO c d) ∧ SIt k1 h i1 a i ∧ SIt k2 h i2 b i) where
 mem := by simp
 obj := fun i h st b hb => by
  obtain ⟨hz, hTI, ⟨c, d, hTO⟩, h1, h2⟩ := st
  simp only [List.mem_cons, List.not_mem_nil, or_false] at hb
  rcases hb with rfl | rfl | rfl | rfl | rfl
  ·exact ⟨_, hz, fun v q => nomatch q⟩
  ·exact ⟨_, hTI, fun v q => nomatch q⟩
  ·exact ⟨_, hTO, fun v q => nomatch q⟩
  ·exact h1.obj
  ·exact h2.obj
 keep := fun i h h' st k => by
  obtain ⟨hz, hTI, ⟨c, d, hTO⟩, h1, h2⟩ := st
  exact ⟨k _ (by simp) _ hz, k _ (by simp) _ hTI, ⟨c, d, k _ (by simp) _ hTO⟩, h1.at fun o e => k _ (by simp) o e, h2.at fun o e => k _ (by simp) o e⟩
 item := by
  intro X hP hw hK hc i pins s σ H E I hf st hg
  subst hP hw hK
  obtain ⟨hz, hTI, ⟨c, d, hTO⟩, h1, h2⟩ := st
  obtain ⟨xs, ys, x, y, q1, q2, hx, hy⟩ := hg
  obtain ⟨ix, rx, px⟩ := I.sis q1
  obtain ⟨iy, ry, py⟩ := I.sis q2
  obtain ⟨u, hu, ru⟩ := rx.get hx
  obtain ⟨v, hv, rv⟩ := ry.get hy
  have hT : s.TypeIs (.ref z) "zip" := ⟨_, hz, rfl⟩
  unfold pyNext
  refine wpAny_bind (wpAny_attempt (wpAny_callSpecial?_slot (name := Str.ofString "__next__") hT F.slot_zip_next
   (wpAny_call_entry F.slot_zip_next hT F.entry_zip_next
    (zakh D hz hTI hTO h1 h2 px py (x := u) (y := v) (by simpa using hu) (by simpa using hv) fun h' a1 a2 a3 a4 a5 a6 a7 => wpAny_pure ?_) (F.args_zip_next_1 _))))
  refine ⟨_, rfl, wpAny_letOwnedTupleGo_zip (s := { s with heap := h' }) a1 fun h'' b1 b2 => ?_⟩
  have zlt : z < s.heap.objs.size := Heap.lt_size hz
  have k2 : ∀ c o, c ∉ [z, TI, TO, i1, i2] → s.heap.get? c = some o → h''.get? c = some o := fun c o hc e => by
   simp only [List.mem_cons, List.not_mem_nil, or_false, not_or] at hc
   exact b2.extBut _ _ hc.1 (a7 c o hc.1 hc.2.2.1 hc.2.2.2.1 hc.2.2.2.2 e)
  have hT2 : IsPair h'' s.heap.objs.size u v := b2.extBut _ _ (Nat.ne_of_gt zlt) a5
  refine ⟨.ref s.heap.objs.size, upd H s.heap.objs.size (.tup [x, y]), I.turnedNew (t' := s.toks) (o := .tup [x, y]) k2 hf (Nat.le_refl _) ⟨by show 2 ≤ sizeLine; decide, [u, v], .cons ru (.cons rv .nil), ⟨_, hT2, rfl, _, rfl⟩⟩, rfl,
   ⟨_, I.hok.fresh (Nat.le_refl _), rfl, fun xs' ys' e1 e2 => ?_⟩, ⟨b1, ?_, ⟨_, _, b2.extBut _ _ D.TOz a2⟩, a3.at fun o e => b2.extBut _ _ D.i1z e, a4.at fun o e => b2.extBut _ _ D.i2z e⟩, fun b hb => ?_⟩
  ·rw [I.sq_inj e1 q1, I.sq_inj e2 q2]
   exact ⟨x, y, hx, hy, rfl⟩
  ·exact b2.extBut _ _ D.TIz (a7 _ _ D.TIz D.TITO D.TIi1 D.TIi2 hTI)
  ·have blt : b < s.heap.objs.size := by
    simp only [List.mem_cons, List.not_mem_nil, or_false] at hb
    rcases hb with rfl | rfl | rfl | rfl | rfl
    ·exact zlt
    ·exact Heap.lt_size hTI
    ·exact Heap.lt_size hTO
    ·obtain ⟨o, e, _⟩ := h1.obj; exact Heap.lt_size e
    ·obtain ⟨o, e, _⟩ := h2.obj; exact Heap.lt_size e
   rw [zaav (Nat.ne_of_lt blt)]
   exact (hf b hb).1
 done := by
  intro X hP hw hK hc i pins s σ H E I hf st hg
  subst hP hw hK
  obtain ⟨hz, hTI, ⟨c, d, hTO⟩, h1, h2⟩ := st
  obtain ⟨xs, ys, q1, q2, hl⟩ := hg
  obtain ⟨ix, rx, px⟩ := I.sis q1
  obtain ⟨iy, ry, py⟩ := I.sis q2
  have l1 := rx.length
  have l2 := ry.length
  have hend : ix.toArray[i]? = none ∨ iy.toArray[i]? = none := by
   rcases hl with h | h
   ·exact .inl (by simp; omega)
   ·exact .inr (by simp; omega)
  have hT : s.TypeIs (.ref z) "zip" := ⟨_, hz, rfl⟩
  unfold pyNext
  refine wpAny_bind (wpAny_attempt (wpAny_callSpecial?_slot (name := Str.ofString "__next__") hT F.slot_zip_next
   (wpAny_call_entry F.slot_zip_next hT F.entry_zip_next (zal1 (I.ok.hd hc) D hz hTI hTO h1 h2 px py hend fun h' e hk he => ?_) (F.args_zip_next_1 _))))
  obtain ⟨o, ho, hc'⟩ := he
  refine wpAny_bind (wpAny_isInstance (T := "StopIteration") (b := true) ⟨o, ho, hc'⟩ isSubtype_stop ?_)
  refine wpAny_pure ⟨rfl, I.turnedL (t' := s.toks) (its := [z, TI, TO, i1, i2]) (fun b o hb e => ?_) hf⟩
  simp only [List.mem_cons, List.not_mem_nil, or_false, not_or] at hb
  exact hk b o hb.1 hb.2.2.1 hb.2.2.2.1 hb.2.2.2.2 e
 self := fun _ _ _ _ _ st h => wpAny_pyIter_zip st.1 h
def itObj (k : SK) (l : Addr) : Obj := match k with
 | .list => { cls := .type "list_iterator", data := .fields #[.ref l, .int 0 0] }
 | .tuple => { cls := .type "tuple_iterator", data := .fields #[.ref l, .int 0 0] }
theorem zago {k : SK} {l it : Addr} {h : Heap} (e : h.get? it = some (itObj k l)) : SIt k h it l 0 := by
 cases k with
 | list => exact ⟨_, e, rfl, rfl⟩
 | tuple => exact ⟨_, e, rfl, rfl⟩
abbrev zS1 (h : Heap) (k1 : SK) (l1 : Addr) : Heap := h.push (itObj k1 l1)
abbrev zS2 (h : Heap) (k1 k2 : SK) (l1 l2 : Addr) : Heap := (zS1 h k1 l1).push (itObj k2 l2)
abbrev zS3 (h : Heap) (k1 k2 : SK) (l1 l2 : Addr) : Heap := (zS2 h k1 k2 l1 l2).push { cls := .type "tuple", data := .seq #[.ref h.objs.size, .ref (zS1 h k1 l1).objs.size] }
abbrev zS4 (h : Heap) (k1 k2 : SK) (l1 l2 : Addr) : Heap := (zS3 h k1 k2 l1 l2).push { cls := .type "tuple", data := .seq #[.none, .none] }
abbrev zS5 (h : Heap) (k1 k2 : SK) (l1 l2 : Addr) : Heap := (zS4 h k1 k2 l1 l2).push { cls := .type "zip", data := .fields #[.none, .bool false, .bool false, .ref (zS2 h k1 k2 l1 l2).objs.size, .ref (zS3 h k1 k2 l1 l2).objs.size] }
set_option maxHeartbeats 4000000 in
theorem zaf2 (k1 k2 : SK) (l1 l2 : Addr) (xs ys : Array Value) :
  Meets (Builtin.«zip.__new__» ⟨[.type "zip", .ref l1, .ref l2], []⟩) (fun _ R s => SIs k1 s.heap l1 xs ∧ SIs k2 s.heap l2 ys ∧
   R (.ok (.ret (.ref (zS4 s.heap k1 k2 l1 l2).objs.size))) { s with heap := zS5 s.heap k1 k2 l1 l2 }) := by
 cases k1 with
 | list =>
  cases k2 with
  | list =>
   exact .of_wp fun prog w A R s h => by
    obtain ⟨hp, g, d, tk, os⟩ := s; obtain ⟨hl1, hl2, h⟩ := h
    have hsub := sub_zip
    have hL1 : Heap.IsList (Shared.heap ⟨hp, g, d, tk, os⟩) l1 xs := hl1
    have hL2 : Heap.IsList (Shared.heap ⟨hp.push { cls := .type "list_iterator", data := .fields #[.ref l1, .int 0 0] }, g, d, tk, os⟩) l2 ys := Heap.IsList.push hl2 _
    wp_walk using wpAny_pyIter_list hL1, wpAny_pyIter_list hL2
    exact ⟨_, rfl, h⟩
  | tuple =>
   exact .of_wp fun prog w A R s h => by
    obtain ⟨hp, g, d, tk, os⟩ := s; obtain ⟨hl1, hl2, h⟩ := h
    have hsub := sub_zip
    have hL1 : Heap.IsList (Shared.heap ⟨hp, g, d, tk, os⟩) l1 xs := hl1
    have hL2 : Heap.IsTuple (Shared.heap ⟨hp.push { cls := .type "list_iterator", data := .fields #[.ref l1, .int 0 0] }, g, d, tk, os⟩) l2 ys := SIs.at (k := .tuple) hl2 fun o e => Heap.get?_push_of_some _ e
    wp_walk using wpAny_pyIter_list hL1, wpAny_pyIter_tuple hL2
    exact ⟨_, rfl, h⟩
 | tuple =>
  cases k2 with
  | list =>
   exact .of_wp fun prog w A R s h => by
    obtain ⟨hp, g, d, tk, os⟩ := s; obtain ⟨hl1, hl2, h⟩ := h
    have hsub := sub_zip
    have hL1 : Heap.IsTuple (Shared.heap ⟨hp, g, d, tk, os⟩) l1 xs := hl1
    have hL2 : Heap.IsList (Shared.heap ⟨hp.push { cls := .type "tuple_iterator", data := .fields #[.ref l1, .int 0 0] }, g, d, tk, os⟩) l2 ys := SIs.at (k := .list) hl2 fun o e => Heap.get?_push_of_some _ e
    wp_walk using wpAny_pyIter_tuple hL1, wpAny_pyIter_list hL2
    exact ⟨_, rfl, h⟩
  | tuple =>
   exact .of_wp fun prog w A R s h => by
    obtain ⟨hp, g, d, tk, os⟩ := s; obtain ⟨hl1, hl2, h⟩ := h
    have hsub := sub_zip
    have hL1 : Heap.IsTuple (Shared.heap ⟨hp, g, d, tk, os⟩) l1 xs := hl1
    have hL2 : Heap.IsTuple (Shared.heap ⟨hp.push { cls := .type "tuple_iterator", data := .fields #[.ref l1, .int 0 0] }, g, d, tk, os⟩) l2 ys := SIs.at (k := .tuple) hl2 fun o e => Heap.get?_push_of_some _ e
    wp_walk using wpAny_pyIter_tuple hL1, wpAny_pyIter_tuple hL2
    exact ⟨_, rfl, h⟩
section
variable {prog : Program} {w : World} {A : Around} {E : Value → Shared → Prop} {s : Shared}
theorem zaki {k1 k2 : SK} {l1 l2 : Addr} {xs ys : Array Value} {Q : Value → Shared → Prop} (hl1 : SIs k1 s.heap l1 xs) (hl2 : SIs k2 s.heap l2 ys)
  (h : ∀ h', IsZip h' (s.heap.objs.size + 4) (s.heap.objs.size + 2) (s.heap.objs.size + 3) .none → IsPair h' (s.heap.objs.size + 2) (.ref s.heap.objs.size) (.ref (s.heap.objs.size + 1)) →
   IsPair h' (s.heap.objs.size + 3) .none .none → SIt k1 h' s.heap.objs.size l1 0 → SIt k2 h' (s.heap.objs.size + 1) l2 0 →
   (∀ c o, s.heap.get? c = some o → h'.get? c = some o) → Q (.ref (s.heap.objs.size + 4)) { s with heap := h' }) :
  wpAny (model prog w) A (call (.type "zip") [.ref l1, .ref l2]) Q E s := by
 refine callType_new F.called_zip (by decide) (F.typeCall_zip_2 _ _) (F.newCall_zip_2 _ _) (fun obj => F.args_object_init_3 obj _ _) F.entry_zip_new
  (zaf2 k1 k2 l1 l2 xs ys) ⟨hl1, hl2, ?_⟩
 have z1 : (zS1 s.heap k1 l1).objs.size = s.heap.objs.size + 1 := Heap.size_push ..
 have z2 : (zS2 s.heap k1 k2 l1 l2).objs.size = s.heap.objs.size + 2 := by rw [Heap.size_push, z1]
 have z3 : (zS3 s.heap k1 k2 l1 l2).objs.size = s.heap.objs.size + 3 := by rw [Heap.size_push, z2]
 have z4 : (zS4 s.heap k1 k2 l1 l2).objs.size = s.heap.objs.size + 4 := by rw [Heap.size_push, z3]
 have r1 : (itObj k1 l1).isFreed = false := by cases k1 <;> rfl
 have r2 : (itObj k2 l2).isFreed = false := by cases k2 <;> rfl
 have g5 : (zS5 s.heap k1 k2 l1 l2).get? (zS4 s.heap k1 k2 l1 l2).objs.size = some _ := Heap.get?_push_size _ rfl
 have g4 : (zS5 s.heap k1 k2 l1 l2).get? (zS3 s.heap k1 k2 l1 l2).objs.size = some _ := Heap.get?_push_of_some _ (Heap.get?_push_size _ rfl)
 have g3 : (zS5 s.heap k1 k2 l1 l2).get? (zS2 s.heap k1 k2 l1 l2).objs.size = some _ := Heap.get?_push_of_some _ (Heap.get?_push_of_some _ (Heap.get?_push_size _ rfl))
 have g2 : (zS5 s.heap k1 k2 l1 l2).get? (zS1 s.heap k1 l1).objs.size = some _ := Heap.get?_push_of_some _ (Heap.get?_push_of_some _ (Heap.get?_push_of_some _ (Heap.get?_push_size _ r2)))
 have g1 : (zS5 s.heap k1 k2 l1 l2).get? s.heap.objs.size = some _ := Heap.get?_push_of_some _ (Heap.get?_push_of_some _ (Heap.get?_push_of_some _ (Heap.get?_push_of_some _ (Heap.get?_push_size _ r1))))
 show _ ∧ _
 rw [z2, z3, z4] at g5
 rw [z1, z2] at g3
 rw [z3] at g4
 rw [z1] at g2
 rw [z4]
 exact ⟨⟨_, g5, rfl⟩, h _ g5 g3 g4 (zago g1) (zago g2) fun c o x =>
  Heap.get?_push_of_some _ (Heap.get?_push_of_some _ (Heap.get?_push_of_some _ (Heap.get?_push_of_some _ (Heap.get?_push_of_some _ x))))⟩
end
section
variable {X : Cx} {elts : List Expr} {kk : Nat} {tpos : Pos}
def iZip (K : PySem.W.Frag) (k1 k2 : SK) (ta : TA) : TI := fun σ H R => ta σ H fun vs H1 => ∃ a b, vs = [.ref a, .ref b] ∧ (∃ xs, Sq k1 K H1 a xs) ∧ (∃ ys, Sq k2 K H1 b ys) ∧ R (Itz K k1 k2 a b) H1
theorem zaqa (k1 k2 : SK) {a b : Expr} {ta : TA} {p pos : Pos} (hg : Gl X "zip") (hm : X.mg "zip" = none) (ha : PA X [a, b] ta) (hs : starEach [a, b] X.env = [(false, eval a X.env), (false, eval b X.env)] := by rfl) (hs2 : starEach [b] X.env = [(false, eval b X.env)] := by rfl) :
  PI X (.Tuple elts kk tpos) (.Call (.Name "zip" p) [a, b] [] pos) (iZip X.K k1 k2 ta) := by
 intro pins s σ H R I h
 refine Call_ (zaf3 I hg hm boot_zip (PyProof.Rows.callWith_type1 (thn (ha pos pins s σ H _ I h) fun us s1 ⟨vs, H1, I1, r1, q1⟩ => ?_) (by rw [hs, hs2]) (by rw [hs2]; rfl)))
 obtain ⟨a', b', e, ⟨xs, qx⟩, ⟨ys, qy⟩, q⟩ := q1
 subst e
 obtain ⟨u, v, rfl, ru, rv⟩ := vals2 r1
 cases ru
 cases rv
 obtain ⟨ix, rx, px⟩ := I1.sis qx
 obtain ⟨iy, ry, py⟩ := I1.sis qy
 refine zaki px py fun h' b1 b2 b3 b4 b5 b6 => wpAny_pyIter_zip (s := { s1 with heap := h' }) b1 ?_
 have nn : ∀ b, s1.heap.objs.size ≤ b → FpOk X pins H1 b := fun b hb => I1.fpOk hb (I1.hok.fresh hb)
 refine ⟨_, [s1.heap.objs.size + 4, s1.heap.objs.size + 2, s1.heap.objs.size + 3, s1.heap.objs.size, s1.heap.objs.size + 1], _, _, H1, rfl, I1.kept (t' := s1.toks) b6, zal2 (k1 := k1) (k2 := k2) (zipApart_new px.lt py.lt), ⟨b1, b2, ⟨_, _, b3⟩, b4, b5⟩, fun b hb => ?_, q⟩
 simp only [List.mem_cons, List.not_mem_nil, or_false] at hb
 rcases hb with rfl | rfl | rfl | rfl | rfl
 ·exact nn _ (Nat.le_add_right _ _)
 ·exact nn _ (Nat.le_add_right _ _)
 ·exact nn _ (Nat.le_add_right _ _)
 ·exact nn _ (Nat.le_refl _)
 ·exact nn _ (Nat.le_add_right _ _)
end
end L2

namespace L2
open PySem PySem.Spec PyProof.Rows PySem.Builtin PySem.Builtin.Str
section
variable {X : Cx}
def rSlS : V → Option Int → Option Int → Hp → VK → Prop := fun x lo hi H Q => ∃ z, x = .str z ∧ z.length ≤ sizeLine ∧ Q (.str (Txt.slice z lo hi)) H
def rMulS : R2 := fun x y H Q => ∃ c n, x = .str ⟨#[c]⟩ ∧ y = .int n ∧ 1 ≤ n ∧ n ≤ 1000 ∧ ∀ z : Str, z.cps.toList = List.replicate n.toNat c → Q (.str z) H
def rJoin (K : PySem.W.Frag) : V → List V → Hp → VK → Prop := fun x vs H Q => ∃ sep p ys, x = .str sep ∧ vs = [.ref p] ∧ SqL K H p (ys.map V.str) ∧ (ys.map (·.length)).sum + ys.length * sep.length ≤ 16777216 ∧ Q (.str (Str.join sep ys)) H
def rSplit : V → List V → Hp → VK → Prop := fun x vs H Q => ∃ z y, x = .str z ∧ vs = [.str y] ∧ y.length ≠ 0 ∧ z.length + 2 ≤ sizeLine ∧ ∀ p, H p = none → Q (.ref p) (upd H p (.lst ((Txt.split z y).map V.str)))
def rIsT (K : PySem.W.Frag) : List V → Hp → VK → Prop := fun xs H Q => ∃ x T t b, xs = [x, .ty T] ∧ TyOf K H x t ∧ PySem.W.kitOne K t (.type T) = some b ∧ Q (.bl b) H
theorem zaa3 : CallR X (.builtin "isinstance") (rIsT X.K) := by
 intro pins s σ H xs us Q I r h
 obtain ⟨x, T, t, b, rfl, ty, e, q⟩ := h
 obtain ⟨u, v, rfl, ru, rv⟩ := vals2 r
 cases rv
 exact zaj6 I ru ty e fun tk => ⟨.bl b, H, I.tok _, rfl, q⟩
example (K : PySem.W.Frag) : PySem.W.kitOne K (.type "int") (.type "int") = some true := rfl
example (K : PySem.W.Frag) : PySem.W.kitOne K (.type "str") (.type "int") = some false := rfl
example (K : PySem.W.Frag) : PySem.W.kitOne K (.type "tuple") (.type "int") = some false := rfl
example (K : PySem.W.Frag) : PySem.W.kitOne K (.type "bool") (.type "int") = some true := rfl
end
theorem zan4 {c : Nat} : (⟨#[c]⟩ : Str).length ≤ 1 := Nat.le_refl 1
theorem zan5 {x y : Str} {m n : Nat} (hx : x.length ≤ m) (hy : y.length ≤ n) (h : m + n ≤ sizeLine) : x.length + y.length ≤ sizeLine := by omega
end L2

namespace L2
open PySem PySem.Spec PyProof.Rows
def ent (w : World) (x : Str × Tok × Value) : DictEntry := ⟨hashStr w x.1, .str x.1 x.2.1, x.2.2⟩
structure KD (P : Program) (w : World) (K : PySem.W.Frag) (a : Addr) (kvs : List (Key × V)) : Prop where
 ex : ∃ (o : Obj) (es : Array DictEntry) (ep : Nat) (vs : List (Key × Value)), K.lookup a = some o ∧ o.ExactDict ∧ o.data = .dict es ep ∧ KeysOf (mixKind P w) es ∧ Pairs (mixKind P w) es.toList vs ∧ (vs.map (·.1)).Nodup ∧ KV kvs vs
 ns : (a == sysModules) = false
def DK (P : Program) (w : World) (K : PySem.W.Frag) (H : Hp) (a : Addr) (kvs : List (Key × V)) : Prop := Rd H a (.dK kvs) ∨ KD P w K a kvs
theorem Inv.dict {X : Cx} {pins : List (Addr × Obj)} {σ : St} {H : Hp} {s : Shared} {a : Addr} {kvs : List (Key × V)} (I : Inv X pins σ H s) (h : DK X.prog X.w X.K H a kvs) :
  (a == sysModules) = false ∧ ∃ vs, KV kvs vs ∧ s.heap.DictOf (mixKind X.prog X.w) a vs := by
 rcases h with h | h
 ·obtain ⟨_, b, c⟩ := zagn I.hok h
  exact ⟨b, c⟩
 ·obtain ⟨o, es, ep, vs, h1, h2, h3, h4, h5, h6, h7⟩ := h.ex
  exact ⟨h.ns, vs, h7, o, es, ep, I.kIn a o h1, h2, h3, h4, h5, h6⟩
theorem zah8 {P : Program} {w : World} {s : Shared} {a : Addr} {vs : List (Key × Value)} (d : s.heap.DictOf (mixKind P w) a vs) : s.TypeIs (.ref a) "dict" := by
 obtain ⟨o, es, ep, h1, h2, _⟩ := d
 exact ⟨o, h1, h2.1⟩
section
variable {X : Cx}
def rIxD (X : Cx) : R2 := fun x y H Q => ∃ a kvs k v, x = .ref a ∧ y = kV k ∧ DK X.prog X.w X.K H a kvs ∧ valV kvs k = some v ∧ Q v H
theorem zaqb {o i : Expr} {td ty : TE} {pos : Pos} (ho : PE X o td) (hi : PE X i ty) (hs : NoSl i) : PE X (.Subscript o i pos) (tOp (rIxD X) td ty) := by
 intro pins s σ H Q I h
 refine zakg PySem.F.slot_dict_getitem.lookup hs (thn (ho pins s σ H _ I h) fun u s1 ⟨x, H1, I1, rx, q1⟩ => thn (hi pins s1 σ H1 _ I1 q1) fun iv s2 ⟨y, H2, I2, ry, q2⟩ => ?_)
 obtain ⟨a, kvs, k, v, rfl, rfl, dk, hv, q⟩ := q2
 obtain rfl : u = Value.ref a := rx
 obtain ⟨_, vs, rel, dd⟩ := I2.dict dk
 obtain ⟨w', hw, rw'⟩ := RelO.some_of (v := v) (o := valueAt vs k) (by rw [← hv]; exact rel.val k)
 exact ⟨zah8 dd, wpAny_getItem_of (zahq ry) dd.mapOf hw ⟨v, H2, I2.tok _, rw', q⟩⟩
def rInD (X : Cx) (neg : Bool) : R2 := fun x y H Q => ∃ a kvs k, y = .ref a ∧ x = kV k ∧ DK X.prog X.w X.K H a kvs ∧ Q (.bl (if neg then !(valV kvs k).isSome else (valV kvs k).isSome)) H
end
theorem zarp {P : Program} {w : World} {K : PySem.W.Frag} {a : Addr} {od : Option Addr} {ep : Nat} {sl : Array (Option Value)} {es : Array DictEntry} (xs : List (Str × Tok × Value)) (vs : List V)
  (l : K.lookup a = some ⟨.type "dict", od, .dict es ep, sl⟩) (he : es.toList = xs.map (ent w)) (hx : (⟨.type "dict", od, .dict es ep, sl⟩ : Obj).ExactDict) (ns : (a == sysModules) = false)
  (nd : (xs.map (·.1)).Nodup) (hv : Vals vs (xs.map (·.2.2))) : KD P w K a ((xs.map fun x => (Sum.inr x.1 : Key)).zip vs) := by
 refine ⟨⟨_, es, ep, xs.map fun x => (Sum.inr x.1, x.2.2), l, hx, rfl, ?_, ?_, ?_, ?_⟩, ns⟩
 ·intro e h
  rw [← Array.mem_toList_iff, he] at h
  obtain ⟨x, hx, rfl⟩ := List.mem_map.mp h
  exact ⟨Sum.inr x.1, zafd x.1 x.2.1, rfl⟩
 ·rw [he]
  clear he nd hv l hx
  induction xs with
  | nil => exact .nil
  | cons x xs ih => exact .cons (zafd x.1 x.2.1) rfl ih
 ·rw [List.map_map]
  have e : (xs.map (fun x => (Sum.inr x.1 : Key))) = (xs.map (·.1)).map Sum.inr := by rw [List.map_map]; rfl
  show (xs.map (fun x => (Sum.inr x.1 : Key))).Nodup
  rw [e]
  exact List.Pairwise.map _ (fun a b h z => h (Sum.inr.inj z)) nd
 ·clear he nd l hx
  induction xs generalizing vs with
  | nil => cases hv; exact .nil
  | cons x xs ih =>
   cases hv with
   | cons r rr => exact .cons ⟨rfl, r⟩ (ih _ rr)
end L2

namespace L2
open PySem PySem.Spec PyProof.Rows
structure Pr (p : Prop) : Prop where
 h : p
section
variable {X : Cx}
theorem zakj {i : Nat} {x : Str} {pos : Pos} (hN : X.N[i]? = some x) (hv : Vis X.env.scope x) (hd : (x == ("__debug__" : Str)) = false := by decide) (hcd : (x == ("__classdict__" : Str)) = false := by decide) : Pr (PE X (.Name x pos) (tVar i)) := ⟨zapb hN hv hd hcd⟩
theorem zaab {i j pos} : Pr (PE X (.Constant (.int i) j pos) (tC (.int i))) := ⟨zapc⟩
theorem zabm {b j pos} : Pr (PE X (.Constant (.bool b) j pos) (tC (.bl b))) := ⟨zarg⟩
theorem zacv {j pos} : Pr (PE X (.Constant .none j pos) (tC .non)) := ⟨zapd⟩
theorem zaap {x j pos} : Pr (PE X (.Constant (.str x) j pos) (tC (.str x))) := ⟨zape⟩
theorem zaix {x : Str} {v : V} {u : Value} {pos : Pos} (hg : Gl X x) (hm : X.mg x = some u) (r : RelV v u) (hd : (x == ("__debug__" : Str)) = false := by decide) : Pr (PE X (.Name x pos) (tC v)) := ⟨zajv hg hm r hd⟩
theorem zaa0 {x : Str} {v : V} {u : Value} {pos : Pos} (hg : Gl X x) (hm : X.mg x = none) (hv : bootBuiltins x = some u) (r : RelV v u) (hn : x ≠ "__name__" := by decide) (hd : (x == ("__debug__" : Str)) = false := by decide) : Pr (PE X (.Name x pos) (tC v)) := ⟨zand hg hm hv r hn hd⟩
end
section
variable {X : Cx} {a b c : Expr} {ta tb tc : TE} {pos : Pos}
theorem zaau {op : Operator} {r : R2} (ho : OpR X (binaryOp op) r) (ha : Pr (PE X a ta)) (hb : Pr (PE X b tb)) : Pr (PE X (.BinOp a op b pos) (tOp r ta tb)) := ⟨zarj ho ha.h hb.h⟩
theorem zamz {op : UnaryOp} {r : V → Hp → VK → Prop} (ho : UnR X (unaryOp op) r) (ha : Pr (PE X a ta)) : Pr (PE X (.UnaryOp op a pos) (tUn r ta)) := ⟨zark ho ha.h⟩
theorem zabd {op : CmpOp} {r : R2} (ho : OpR X (compareOp op) r) (ha : Pr (PE X a ta)) (hb : Pr (PE X b tb)) (hm : behindInMarks op b = false) : Pr (PE X (.Compare a [op] [b] pos) (tOp r ta tb)) := ⟨zanm ho ha.h hb.h hm⟩
theorem zac4 {op op' : CmpOp} {r r' : R2} (ho : OpR X (compareOp op) r) (ho' : OpR X (compareOp op') r') (ha : Pr (PE X a ta)) (hb : Pr (PE X b tb)) (hc : Pr (PE X c tc)) (hm : lastMarks [op, op'] [b, c] = false := by with_unfolding_all rfl) : Pr (PE X (.Compare a [op, op'] [b, c] pos) (tChain r r' ta tb tc)) := ⟨zalo ho ho' ha.h hb.h hc.h hm⟩
end
section
variable {X : Cx}
variable {a b : Expr} {ta tb : TE} {pos : Pos}
variable {tA tB' : TT} {rest : List Expr}
theorem zabw (ha : Pr (PE X a ta)) (hb : Pr (PE X (.BoolOp .And (b :: rest) pos) tb)) : Pr (PE X (.BoolOp .And (a :: b :: rest) pos) (tAndV ta tb)) := ⟨zapl ha.h hb.h⟩
end
section
variable {X : Cx}
variable {a b : Expr} {ta tb : TE} {pos : Pos}
variable {tA tB' : TT} {rest : List Expr}
end
section
variable {X : Cx}
variable {a b : Expr} {ta tb : TE} {pos : Pos}
variable {tA tB' : TT} {rest : List Expr}
theorem zab3 {op} {t : TE} (h : Pr (PE X a t)) : Pr (PE X (.BoolOp op [a] pos) t) := ⟨zapk h.h⟩
end
section
variable {X : Cx}
variable {a b : Expr} {ta tb : TE} {pos : Pos}
variable {tA tB' : TT} {rest : List Expr}
theorem zah9 (ha : Pr (PE X a ta)) : Pr (PE X (.UnaryOp .Not a pos) (tNotV ta)) := ⟨zapm ha.h⟩
end
section
variable {X : Cx}
variable {a b : Expr} {ta tb : TE} {pos : Pos}
variable {tA tB' : TT} {rest : List Expr}
theorem zacw {c : Expr} (hc : Pr (PT X c tA)) (ha : Pr (PE X a ta)) (hb : Pr (PE X b tb)) : Pr (PE X (.IfExp c a b pos) (tIf tA ta tb)) := ⟨zalk hc.h ha.h hb.h⟩
end
section
variable {X : Cx} {e : Expr} {es : List Expr} {te : TE} {t : TA} {pos : Pos}
theorem zaa4 {x1} (h : Pr (PA X es t)) : Pr (PE X (.Tuple es x1 pos) (tTup t)) := ⟨zapx h.h⟩
theorem zaa5 (h : Pr (PA X es t)) : Pr (PE X (.List es pos) (tLst t)) := ⟨zapy h.h⟩
end
section
variable {X : Cx} {e : Expr} {te : TE} {lo hi : Option Expr} {tl th : TO} {pos p2 : Pos}
theorem zad8 {r : V → Option Int → Option Int → Hp → VK → Prop} (hr : SlR X r) (he : Pr (PE X e te)) (hl : Pr (PO X lo tl)) (hu : Pr (PO X hi th)) : Pr (PE X (.Subscript e (.Slice lo hi none p2) pos) (tSl r te tl th)) := ⟨zalt hr he.h hl.h hu.h⟩
end
section
variable {X : Cx} {a b : Expr} {ta tb : TE} {pos : Pos}
theorem zaal {r : R2} (hr : IxR X r) (ha : Pr (PE X a ta)) (hb : Pr (PE X b tb)) (hs : PlainIx b) : Pr (PE X (.Subscript a b pos) (tOp r ta tb)) := ⟨zarl hr ha.h hb.h hs⟩
end
section
variable {X : Cx}
theorem zan6 {o i : Expr} {td ty : TE} {pos : Pos} (ho : Pr (PE X o td)) (hi : Pr (PE X i ty)) (hs : NoSl i) : Pr (PE X (.Subscript o i pos) (tOp (rIxD X) td ty)) := ⟨zaqb ho.h hi.h hs⟩
end
section
variable {X : Cx} {o e value : Expr} {f : Str} {pos pos' tpos : Pos} {ta tv : TE}
theorem zaa9 (he : Pr (PE X e ta)) (hb : attributeBase e f X.env (eval e X.env) = eval e X.env) : Pr (PE X (.Attribute e f pos) (tFld X.K ta f)) := ⟨zamu he.h hb⟩
end
section
variable {X : Cx} {CX : CXT} {k : Nat} {ps : List Str} {sp : Sp} {E : XK} {x : Str} {p pos : Pos} {e : Expr} {es : List Expr} {t : TA}
theorem zaar (D : DefOk X.prog X.w X.K X.mg X.base CX k x ps sp) (hr : Room k X.A) (hg : Gl X x) (hx : Passes CX X E) (ha : Pr (PA X (e :: es) t)) (hdb : (x == ("__debug__" : Str)) = false := by decide) (he : starEach (e :: es) X.env = (false, eval e X.env) :: starEach es X.env := by rfl) (hpl : (backTo pos (starEach es X.env)).any (·.1) = false := by rfl) : Pr (PE X (.Call (.Name x p) (e :: es) [] pos) (tCall sp [] E t)) := ⟨zalz D hr hg hx ha.h hdb he hpl⟩
end
section
variable {X : Cx} {x : Str} {p pos : Pos} {e : Expr} {es : List Expr} {t : TA} {id T : String} {r : List V → Hp → VK → Prop}
theorem zaai (hc : CallR X (.builtin id) r) (hg : Gl X x) (hm : X.mg x = none) (hv : bootBuiltins x = some (.builtin id)) (ha : Pr (PA X (e :: es) t)) (hn : x ≠ "__name__" := by decide) (hdb : (x == ("__debug__" : Str)) = false := by decide) (he : starEach (e :: es) X.env = (false, eval e X.env) :: starEach es X.env := by rfl) (hpl : (backTo pos (starEach es X.env)).any (·.1) = false := by rfl) : Pr (PE X (.Call (.Name x p) (e :: es) [] pos) (tCB r t)) := ⟨zalr hc hg hm hv ha.h hn hdb he hpl⟩
theorem zabj (hc : CallR X (.type T) r) (hg : Gl X x) (hm : X.mg x = none) (hv : bootBuiltins x = some (.type T)) (ha : Pr (PA X (e :: es) t)) (hn : x ≠ "__name__" := by decide) (hdb : (x == ("__debug__" : Str)) = false := by decide) (he : starEach (e :: es) X.env = (false, eval e X.env) :: starEach es X.env := by rfl) (hpl : (backTo pos (starEach es X.env)).any (·.1) = false := by rfl) : Pr (PE X (.Call (.Name x p) (e :: es) [] pos) (tCB r t)) := ⟨zaj8 hc hg hm hv ha.h hn hdb he hpl⟩
end
section
variable {X : Cx} {a b : Expr} {ta tb : TE} {pos : Pos}
variable {o e : Expr} {es : List Expr} {to : TE} {t : TA} {name : Str} {apos cpos : Pos} {T id : String} {r : V → List V → Hp → VK → Prop}
theorem zaf9 (pa : PlainAttrs T) (slot : Slot T name id) (hty : typeOf (.builtin id) = pure (.type "method_descriptor")) (hm : MtR X id r) (ho : Pr (PE X o to)) (ha : Pr (PA X (e :: es) t)) (hbase : attributeBase o name X.env (eval o X.env) = eval o X.env := by rfl) (hfew : ((backTo cpos (starEach (e :: es) X.env)).all (fun x => !x.1) && (backToKw cpos (keywordEach [] X.env)).all (fun x => x.1.isSome)
   && decide ((e :: es).length + ([] : List Keyword).length + (if ([] : List Keyword).isEmpty then 0 else 1) < 30)) = true := by rfl) (hline : (apos.endLine == cpos.line) = true := by rfl) (hs : starEach (e :: es) X.env = (false, eval e X.env) :: starEach es X.env := by rfl) (hplain : (backTo cpos (starEach es X.env)).any (·.1) = false := by rfl) : Pr (PE X (.Call (.Attribute o name apos) (e :: es) [] cpos) (tBM X.K T r to t)) := ⟨zarm pa slot hty hm ho.h ha.h hbase hfew hline hs hplain⟩
end
section
variable {X : Cx} {a b c : Expr} {ta tb tc : TE} {pos : Pos}
theorem zaaq {op : CmpOp} {r : R2} (ho : OpR X (compareOp op) r) (ha : Pr (PE X a ta)) (hb : Pr (PE X b tb)) (hm : behindInMarks op b = false) : Pr (PT X (.Compare a [op] [b] pos) (tTest (tOp r ta tb))) := ⟨zann ho ha.h hb.h hm⟩
end
section
variable {X : Cx}
variable {a b : Expr} {ta tb : TE} {pos : Pos}
variable {tA tB' : TT} {rest : List Expr}
theorem zacd (ha : Pr (PT X a tA)) : Pr (PT X (.UnaryOp .Not a pos) (tNot tA)) := ⟨zapj ha.h⟩
end
section
variable {X : Cx}
variable {a b : Expr} {ta tb : TE} {pos : Pos}
theorem zaba {e : Expr} {t : TE} (h : Pr (PE X e t)) (he : ∀ whole, isTrue e X.env whole = (do let v ← whole; standAt e.pos; holding [v] (truthy v)) := by intro _; rfl) : Pr (PT X e (tB t)) := ⟨zapg h.h he⟩
end
section
theorem zab5 {X : Cx} {e : Expr} {t : TT} (h : Pr (PW X e t)) : Pr (PT X e t) := ⟨PW.pt h.h⟩
end
section
variable {X : Cx}
variable {a b : Expr} {ta tb : TE} {pos : Pos}
variable {tA tB' : TT} {rest : List Expr}
theorem zaia (ha : Pr (PT X a tA)) (hb : Pr (PW X (.BoolOp .And (b :: rest) pos) tB')) : Pr (PW X (.BoolOp .And (a :: b :: rest) pos) (tAnd tA tB')) := ⟨zapi ha.h hb.h⟩
end
section
variable {X : Cx}
variable {a b : Expr} {ta tb : TE} {pos : Pos}
variable {tA tB' : TT} {rest : List Expr}
theorem zagp (ha : Pr (PT X a tA)) : Pr (PW X (.BoolOp .And [a] pos) tA) := ⟨zane ha.h⟩
end
section
variable {X : Cx}
variable {a b : Expr} {ta tb : TE} {pos : Pos}
variable {tA tB' : TT} {rest : List Expr}
theorem zab8 (ha : Pr (PT X a tA)) (hb : Pr (PW X (.BoolOp .Or (b :: rest) pos) tB')) : Pr (PW X (.BoolOp .Or (a :: b :: rest) pos) (tOr tA tB')) := ⟨zarh ha.h hb.h⟩
end
section
variable {X : Cx}
variable {a b : Expr} {ta tb : TE} {pos : Pos}
variable {tA tB' : TT} {rest : List Expr}
theorem zabz (ha : Pr (PT X a tA)) : Pr (PW X (.BoolOp .Or [a] pos) tA) := ⟨zaph ha.h⟩
end
section
variable {X : Cx} {e : Expr} {es : List Expr} {te : TE} {t : TA} {pos : Pos}
theorem zaac  : Pr (PA X [] tNil) := ⟨zapw⟩
theorem zaaa (ha : Pr (PE X e te)) (hr : Pr (PA X es t)) (hs : starEach (e :: es) X.env = (false, eval e X.env) :: starEach es X.env := by rfl) : Pr (PA X (e :: es) (tCons te t)) := ⟨zanq ha.h hr.h hs⟩
end
section
variable {X : Cx} {e : Expr} {te : TE} {lo hi : Option Expr} {tl th : TO} {pos p2 : Pos}
theorem zae9  : Pr (PO X none tNoPart) := ⟨zant⟩
theorem zafa (h : Pr (PE X e te)) : Pr (PO X (some e) (tPart te)) := ⟨zanu h.h⟩
end
section
variable {X : Cx} {tg : Expr}
theorem zact {l : Expr} {tl : TE} (hl : Pr (PE X l tl)) : Pr (PI X tg l (iList X.K tl)) := ⟨zajx hl.h⟩
theorem zaek {l : Expr} {tl : TE} (hl : Pr (PE X l tl)) : Pr (PI X tg l (iTup X.K tl)) := ⟨zamr hl.h⟩
theorem zac5 {a : Expr} {ta : TA} {p pos : Pos} (hg : Gl X "range") (hm : X.mg "range" = none) (ha : Pr (PA X [a] ta)) (hs : starEach [a] X.env = [(false, eval a X.env)] := by rfl) : Pr (PI X tg (.Call (.Name "range" p) [a] [] pos) (iRng1 ta)) := ⟨zajy hg hm ha.h hs⟩
end
section
variable {X : Cx} {elts : List Expr} {kk : Nat} {tpos : Pos}
theorem zaib (k1 k2 : SK) {a b : Expr} {ta : TA} {p pos : Pos} (hg : Gl X "zip") (hm : X.mg "zip" = none) (ha : Pr (PA X [a, b] ta)) (hs : starEach [a, b] X.env = [(false, eval a X.env), (false, eval b X.env)] := by rfl) (hs2 : starEach [b] X.env = [(false, eval b X.env)] := by rfl) : Pr (PI X (.Tuple elts kk tpos) (.Call (.Name "zip" p) [a, b] [] pos) (iZip X.K k1 k2 ta)) := ⟨zaqa k1 k2 hg hm ha.h hs hs2⟩
end
section
variable {X : Cx} {pos : Pos}
theorem zaa2 {i : Nat} {x : Str} (hN : X.N.Nodup) (hi : X.N[i]? = some x) (hx : Loc X.env.scope x) (hf : X.fn x = true ∨ X.env.scope.names.lookup x = some .local := by first | exact .inl rfl | exact .inr rfl | assumption) : Pr (PG X (.Name x pos) (gName i)) := ⟨zani hN hi hx hf⟩
theorem zacl  : Pr (PGs X [] gNil) := ⟨zanj⟩
theorem zabb {e : Expr} {es : List Expr} {t : TG} {u : TGs} (h1 : Pr (PG X e t)) (h2 : Pr (PGs X es u)) (hs : (assignEach (e :: es) X.env).map (·.2) = assign e X.env :: (assignEach es X.env).map (·.2) := by rfl) : Pr (PGs X (e :: es) (gCons t u)) := ⟨zall h1.h h2.h hs⟩
theorem zagq {es : List Expr} {k : Nat} {t : TGs} {n : Nat} (hc : X.calm = true) (h : Pr (PGs X es t)) (hn : (assignEach es X.env).length = n := by rfl) (hst : (assignEach es X.env).findIdx? (·.1) = none := by rfl) : Pr (PG X (.Tuple es k pos) (gTup X.K n t)) := ⟨zamq hc h.h hn hst⟩
theorem zakk {o i : Expr} {to ti : TE} {t : TSet} (ho : Pr (PE X o to)) (hi : Pr (PE X i ti)) (hs : PSet X t) (ha : ∀ v, assign (.Subscript o i pos) X.env v = (do
   let ov ← holding [v] (eval o X.env)
   let iv ← holding [v, ov] (eval i X.env)
   standAt pos
   holding [v, ov, iv] (setItem ov iv v)
   release [v, ov, iv] []) := by intro _; rfl) : Pr (PG X (.Subscript o i pos) (gSub to ti t)) := ⟨zapo ho.h hi.h hs ha⟩
end
section
variable {X : Cx} {st : Stmt} {rest : List Stmt} {t u : TS} {e : Expr} {te : TE} {pos : Pos}
theorem zaaj (he : Pr (PE X e te)) : Pr (PS X (.Return (some e) pos) (tRet te)) := ⟨zapn he.h⟩
end
section
variable {X : Cx} {pos : Pos}
theorem zaa1 {i : Nat} {x : Str} {e : Expr} {te : TE} {pos' : Pos} (hN : X.N.Nodup) (hi : X.N[i]? = some x) (hx : Loc X.env.scope x) (he : Pr (PE X e te)) (hs : swapsWith e (some (.Name x pos')) pos.line X.env = pure false := by rfl) (hf : X.fn x = true ∨ X.env.scope.names.lookup x = some .local := by first | exact .inl rfl | exact .inr rfl | assumption) : Pr (PS X (.Assign [.Name x pos'] e pos) (tAsg te (gName i))) := ⟨zapq hN hi hx he.h hs hf⟩
theorem zagr {tg e : Expr} {te : TE} {g : TG} (he : Pr (PE X e te)) (hg : Pr (PG X tg g)) (hs : swapsWithSole [tg] e pos.line X.env = pure false := by rfl) (hw : swappedStores [tg] e X.env = pure none := by rfl) (h1 : (assignEach [tg] X.env).map (·.2) = [assign tg X.env] := by rfl) : Pr (PS X (.Assign [tg] e pos) (tAsg te g)) := ⟨zapp he.h hg.h hs hw h1⟩
theorem zan7 {i : Nat} {x : Str} {e : Expr} {te : TE} {op : Operator} {ti : TIp} {pos' : Pos} (hN : X.N.Nodup) (hi : X.N[i]? = some x) (hx : Loc X.env.scope x) (he : Pr (PE X e te)) (ho : PIp X op ti) (hf : X.fn x = true ∨ X.env.scope.names.lookup x = some .local := by first | exact .inl rfl | exact .inr rfl | assumption) : Pr (PS X (.AugAssign (.Name x pos') op e pos) (tAug i te ti)) := ⟨zapr hN hi hx he.h ho hf⟩
end
section
variable {X : Cx} {st : Stmt} {rest : List Stmt} {t u : TS} {e : Expr} {te : TE} {pos : Pos}
theorem zaaw {c : Expr} {a b : List Stmt} {tc : TT} (hc : Pr (PT X c tc)) (ha : Pr (PSs X a t)) (hb : Pr (PSs X b u)) : Pr (PS X (.If c a b pos) (tIfS tc t u)) := ⟨zari hc.h ha.h hb.h⟩
end
section
theorem zacu {X : Cx} {tg iter : Expr} {body : List Stmt} {wi : TI} {g : TG} {tb : TS} {pos : Pos} (hp : PassesOwn (model X.prog X.w) X.A X.env X.xe) (hc : X.calm = true) (hi : Pr (PI X tg iter wi)) (hg : Pr (PG X tg g)) (hb : Pr (PSs X body tb)) (hs : ∀ x, foldedSetIterable iter X.env x = pure x := by intro _; rfl) : Pr (PS X (.For tg iter body [] pos) (tLoop wi g tb)) := ⟨zan2 hp hc hi.h hg.h hb.h hs⟩
end
section
variable {X : Cx} {pos : Pos}
end
section
variable {X : Cx} {st : Stmt} {rest : List Stmt} {t u : TS} {e : Expr} {te : TE} {pos : Pos}
theorem zada (he : Pr (PE X e te)) (hs : swapsWith e none pos.line X.env = pure false := by rfl) : Pr (PS X (.Expr e pos) (tDrop te)) := ⟨zanh he.h hs⟩
theorem zaak  : Pr (PSs X [] tNext) := ⟨zanf⟩
theorem zaaf (h1 : Pr (PS X st t)) : Pr (PSs X [st] t) := ⟨zang h1.h⟩
theorem zaad (h1 : Pr (PS X st t)) (h2 : Pr (PSs X rest u)) : Pr (PSs X (st :: rest) (tSeq t u)) := ⟨zaiq h1.h h2.h⟩
end
section
theorem zabf {X : Cx} {st : Stmt} {rest : List Stmt} {t u : TS} (h1 : Pr (PS X st t)) (h2 : Pr (PSs X rest u)) : Pr (PSs X (st :: rest) (tCut t u)) := ⟨zan3 h1.h h2.h⟩
end
section
variable {X : Cx} {st : Stmt} {rest : List Stmt} {t u : TS} {e : Expr} {te : TE} {pos : Pos}
end
section
variable {X : Cx} {o e value : Expr} {f : Str} {pos pos' tpos : Pos} {ta tv : TE}
theorem zadb (ha : Pr (PE X o ta)) (hv : Pr (PE X value tv)) (hs : swapsWith value (some (.Attribute o f pos')) pos.line X.env = pure false) : Pr (PS X (.Assign [.Attribute o f pos'] value pos) (sFld X.K ta tv f)) := ⟨zapv ha.h hv.h hs⟩
end
end L2

namespace L2
open PySem PySem.Spec PyProof.Rows
def relab (sc outer : Scope) : Scope :=
 { sc with names := sc.names.map fun (n, k) => if (k == .free && outer.kind == .function && outer.names.lookup n == some .cell) then (n, .cell) else (n, k) }
structure CompOk (sc outer : Scope) (own : List Str) (N : List Str) (fr : List Nat) (N' : List Str) : Prop where
 kind : sc.kind = .function
 nocell : ∀ y ∈ sc.names, y.2 ≠ .cell
 loc : ∀ y ∈ sc.names, y.2 = .local → sc.names.lookup y.1 = some .local
 fre : ∀ y ∈ sc.names, y.2 = .free → outer.names.lookup y.1 = some .cell ∨ outer.names.lookup y.1 = some .free
 nd : N'.Nodup
 all : N'.map some = own.map some ++ fr.map fun j => N[j]?
 frk : ∀ j ∈ fr, ∀ x, N[j]? = some x → sc.names.lookup x = some .free ∧ (outer.names.lookup x = some .cell ∨ outer.names.lookup x = some .free)
def cst (n : Nat) (fr : List Nat) (σ : St) : St := List.replicate n none ++ fr.map fun j => (σ[j]?).join
theorem zafl {env : Env} {sc : Scope} (h : ∀ y ∈ sc.names, y.2 = .free → ∃ c, env.cells.lookup y.1 = some c) :
  ∃ cl, closureFor sc env = pure cl ∧ (∀ x c, cl.lookup x = some c → env.cells.lookup x = some c) ∧ ∀ y ∈ sc.names, y.2 = .free → ∃ c, cl.lookup y.1 = some c := by
 have key : ∀ (l : List (Str × NameKind)) (cs : List (Str × Addr)), (∀ y ∈ l, y.2 = .free → ∃ c, env.cells.lookup y.1 = some c) → (∀ x c, cs.lookup x = some c → env.cells.lookup x = some c) →
   ∃ cl, (forIn l cs fun x r => if (x.2 == NameKind.free) = true then do let a ← cellOf env x.1; pure (ForInStep.yield ((x.1, a) :: r)) else pure (ForInStep.yield r)) = (pure cl : Sem _) ∧ (∀ x c, cl.lookup x = some c → env.cells.lookup x = some c) ∧
    (∀ x, (∃ c, cs.lookup x = some c) → ∃ c, cl.lookup x = some c) ∧ ∀ y ∈ l, y.2 = .free → ∃ c, cl.lookup y.1 = some c := by
  intro l
  induction l with
  | nil => intro cs _ h2; exact ⟨cs, rfl, h2, fun _ z => z, fun y hy => nomatch hy⟩
  | cons y l ih =>
   intro cs h1 h2
   obtain ⟨n, k⟩ := y
   by_cases hk : k = .free
   ·subst hk
    obtain ⟨c, hc⟩ := h1 (n, .free) List.mem_cons_self rfl
    obtain ⟨cl, e, a, b, d⟩ := ih ((n, c) :: cs) (fun y hy => h1 y (List.mem_cons_of_mem _ hy)) (fun x c' hx => by
     rw [List.lookup_cons] at hx
     split at hx
     ·rename_i q
      have : x = n := by simpa using q
      cases hx; subst this; exact hc
     ·exact h2 x c' hx)
    refine ⟨cl, ?_, a, fun x ⟨c', hx⟩ => b x ?_, fun y hy hf => ?_⟩
    ·rw [List.forIn_cons]
     have e1 : cellOf env n = pure c := by unfold cellOf; rw [hc]
     simp only [beq_self_eq_true, if_true, e1, pure_bind]
     exact e
    ·rw [List.lookup_cons]
     split
     ·exact ⟨_, rfl⟩
     ·exact ⟨c', hx⟩
    ·rcases List.mem_cons.mp hy with rfl | hy
     ·exact b n ⟨c, by simp [List.lookup_cons]⟩
     ·exact d y hy hf
   ·obtain ⟨cl, e, a, b, d⟩ := ih cs (fun y hy => h1 y (List.mem_cons_of_mem _ hy)) h2
    refine ⟨cl, ?_, a, b, fun y hy hf => ?_⟩
    ·rw [List.forIn_cons]
     have hb : (k == NameKind.free) = false := by simpa using hk
     simp only [hb, Bool.false_eq_true, if_false, pure_bind]
     exact e
    ·rcases List.mem_cons.mp hy with rfl | hy
     ·exact absurd hf hk
     ·exact d y hy hf
 obtain ⟨cl, e, a, _, d⟩ := key sc.names [] h (fun x c hx => by simp at hx)
 refine ⟨cl, ?_, a, d⟩
 unfold closureFor
 simp only [e, pure_bind]
def cxC (X : Cx) (sc : Scope) (cl : List (Str × Addr)) (N' : List Str) (C : Addr) (s : Shared) (H : Hp) (fp : List Addr) : Cx :=
 { X with N := N', s₀ := s, H₀ := H, env := compEnvC sc cl C X.env, outer := X.stack, stack := X.stack, ex := fp, fn := fun _ => false, pn := [], xe := fun _ _ => False }
theorem zacz {outer : Scope} : ∀ {names : List (Str × NameKind)} {x : Str} {k : NameKind},
  (names.map fun (n, k) => if (k == NameKind.free && outer.kind == .function && outer.names.lookup n == some .cell) then (n, NameKind.cell) else (n, k)).lookup x = some k →
   names.lookup x = some k ∨ (names.lookup x = some .free ∧ k = .cell)
 | [], x, k, h => by simp at h
 | (n, k') :: r, x, k, h => by
  rw [List.map_cons] at h
  by_cases hc : (k' == NameKind.free && outer.kind == .function && outer.names.lookup n == some .cell) = true
  ·simp only [hc, if_true] at h
   rw [List.lookup_cons] at h ⊢
   cases hx : x == n with
   | true =>
    rw [hx] at h
    simp only [Option.some.injEq] at h
    have hf : k' = .free := by
     have := (Bool.and_eq_true_iff.mp (Bool.and_eq_true_iff.mp hc).1).1
     simpa using this
    exact .inr ⟨by simp [hf], h.symm⟩
   | false => rw [hx] at h; exact zacz h
  ·simp only [hc, Bool.false_eq_true, if_false] at h
   rw [List.lookup_cons] at h ⊢
   cases hx : x == n with
   | true => rw [hx] at h; exact .inl (by simpa using h)
   | false => rw [hx] at h; exact zacz h
theorem zael {outer : Scope} : ∀ {names : List (Str × NameKind)} {x : Str}, names.lookup x = some .free →
  (names.map fun (n, k) => if (k == NameKind.free && outer.kind == .function && outer.names.lookup n == some .cell) then (n, NameKind.cell) else (n, k)).lookup x = some .cell ∨
  (names.map fun (n, k) => if (k == NameKind.free && outer.kind == .function && outer.names.lookup n == some .cell) then (n, NameKind.cell) else (n, k)).lookup x = some .free
 | [], x, h => by simp at h
 | (n, k') :: r, x, h => by
  rw [List.lookup_cons] at h
  rw [List.map_cons]
  by_cases hc : (k' == NameKind.free && outer.kind == .function && outer.names.lookup n == some .cell) = true
  ·simp only [hc, if_true]
   rw [List.lookup_cons]
   cases hx : x == n with
   | true => exact .inl rfl
   | false => rw [hx] at h; exact zael h
  ·simp only [hc, Bool.false_eq_true, if_false]
   rw [List.lookup_cons]
   cases hx : x == n with
   | true => rw [hx] at h; exact .inr h
   | false => rw [hx] at h; exact zael h
theorem zadc {α : Type} : ∀ {l : List (Str × α)} {x : Str} {k : α}, l.lookup x = some k → (x, k) ∈ l
 | [], _, _, h => by simp at h
 | (n, k') :: r, x, k, h => by
  rw [List.lookup_cons] at h
  cases hx : x == n with
  | true =>
   rw [hx] at h
   have e : x = n := by simpa using hx
   have e2 : k' = k := by simpa using h
   rw [e, e2]; exact List.mem_cons_self
  | false => rw [hx] at h; exact List.mem_cons_of_mem _ (zadc h)
section
variable {X : Cx} {pins : List (Addr × Obj)} {σ : St} {H : Hp} {s : Shared} {sc : Scope} {own : List Str} {fr : List Nat} {N' : List Str} {cl : List (Str × Addr)}
theorem zaic (I : Inv X pins σ H s) (cs : CompOk sc X.env.scope own X.N fr N') (h1 : ∀ x c, cl.lookup x = some c → X.env.cells.lookup x = some c) (h2 : ∀ y ∈ sc.names, y.2 = .free → ∃ c, cl.lookup y.1 = some c)
  {fp : List Addr} (hf : ∀ b ∈ fp, FpOk X pins H b ∧ ∃ o, s.heap.get? b = some o) {h' : Heap} {t' : Nat} {C D : Addr} {o : Obj} (hC : s.heap.objs.size ≤ C) (hD : s.heap.objs.size ≤ D) (hDC : D ≠ C)
  (k : ∀ b u, s.heap.get? b = some u → h'.get? b = some u) (hn : h'.Ns C fun _ => none) (hDo : h'.get? D = some o) (hd : ∀ v, o.data ≠ .cell v) :
  Inv (cxC X sc cl N' C s H fp) [(D, o)] (cst own.length fr σ) H { s with heap := h', toks := t' } := by
 have lt : ∀ b u, s.heap.get? b = some u → b < s.heap.objs.size := fun b u e => Heap.lt_size e
 have fpC : ∀ b ∈ fp, b ≠ C := fun b hb z => by
  obtain ⟨_, o, e⟩ := hf b hb
  have := lt b o e
  rw [z] at this
  exact absurd (Nat.lt_of_lt_of_le this hC) (Nat.lt_irrefl _)
 have lenN : N'.length = own.length + fr.length := by
  have := congrArg List.length cs.all
  simpa using this
 refine ⟨⟨I.ok.mod, cs.kind, I.ok.glob, I.ok.blt, hC, fun x y c e1 e2 => I.ok.inj x y c (h1 x c e1) (h1 y c e2), fun x hx => ?_, fun x c z => absurd z Bool.false_ne_true, I.ok.hd, I.ok.frames, .inl rfl, fun b hb => ⟨fpC b hb, fun x c e => (hf b hb).1.2.2.2.2.1 x c (h1 x c e)⟩,
   I.bs, Nat.le_trans I.ok.bsz I.sz, fun b o' e hb => ?_, fun b hb z => ?_, I.stack, I.stkFree⟩,
  rfl, I.bare, Un.kept k, ⟨_, hn, fun i x v e1 e2 e3 => ?_⟩, fun x c e => ?_, I.hok.fresh hC, fun x c e => I.freeC x c (h1 x c e), fun p hp => ?_, I.hok.kept k, ?_⟩
 ·have hx' : (relab sc X.env.scope).names.lookup x = some .cell ∨ (relab sc X.env.scope).names.lookup x = some .free := hx
  have hfree : sc.names.lookup x = some .free := by
   rcases hx' with z | z
   ·rcases zacz z with q | q
    ·exact absurd rfl (cs.nocell _ (zadc q))
    ·exact q.1
   ·rcases zacz z with q | q
    ·exact q
    ·exact q.1
  exact h2 (x, .free) (zadc hfree) rfl
 ·have q := (hf b hb).1.2.2.2.1
  rcases q with q | q
  ·exact I.ok.noex b o' e q
  ·exact absurd (Nat.lt_of_lt_of_le (Heap.lt_size (I.ok.bs b o' e).1) q) (Nat.lt_irrefl _)
 ·have z' : b ∈ frs X.stack := z
  rcases List.mem_cons.mp (I.stkSub b z') with q | q
  ·exact (hf b hb).1.2.1 q
  ·exact (hf b hb).1.2.2.1 q
 ·-- a name of the block at its entry is one of the def's
  have hi : own.length ≤ i := by
   by_cases hi : i < own.length
   ·have e2' : (cst own.length fr σ)[i]? = some none := by
     unfold cst
     rw [List.getElem?_append_left (by simpa using hi), List.getElem?_replicate, if_pos hi]
    rw [e2'] at e2; cases e2
   ·omega
  have e2' : (fr.map fun j => (σ[j]?).join)[i - own.length]? = some (some v) := by
   unfold cst at e2
   rwa [List.getElem?_append_right (by simpa using hi), List.length_replicate] at e2
  rw [List.getElem?_map] at e2'
  have e1a : (N'.map some)[i]? = some (some x) := by
   have e1 : N'[i]? = some x := e1
   rw [List.getElem?_map, e1]; rfl
  rw [cs.all, List.getElem?_append_right (by simpa using hi), List.length_map, List.getElem?_map] at e1a
  cases ej : fr[i - own.length]? with
  | none => rw [ej] at e2'; cases e2'
  | some j =>
   rw [ej] at e2' e1a
   have hj : j ∈ fr := List.mem_of_getElem? ej
   have nj : X.N[j]? = some x := by simpa using e1a
   have sj : σ[j]? = some (some v) := by
    have : (σ[j]?).join = some v := by simpa using e2'
    cases q : σ[j]? with
    | none => rw [q] at this; cases this
    | some y => rw [q] at this; simp at this; rw [this]
   obtain ⟨kf, ko⟩ := cs.frk j hj x nj
   obtain ⟨m, hm, hl⟩ := I.loc
   obtain ⟨u, r, l⟩ := hl j x v nj sj (.inr ko)
   refine ⟨u, r, .inr ?_⟩
   have lk : X.env.kindOf x = some .cell ∨ X.env.kindOf x = some .free := ko
   rcases l with ⟨z, _⟩ | ⟨_, c, ec, ic⟩
   ·rcases lk with q | q <;> rw [z] at q <;> cases q
   ·obtain ⟨c', hc'⟩ := h2 (x, .free) (zadc kf) rfl
    have : c' = c := by
     have := h1 x c' hc'
     rw [ec] at this; exact (Option.some.inj this).symm
    subst this
    refine ⟨zael kf, c', hc', ?_⟩
    obtain ⟨oc, hoc, hcd⟩ := ic
    exact ⟨oc, k c' oc hoc, hcd⟩
 ·obtain ⟨v, oc, hoc, hcd⟩ := I.cell x c (h1 x c e)
  exact ⟨v, oc, k c oc hoc, hcd⟩
 ·have hp' : p ∈ [(D, o)] := hp
  have e : p = (D, o) := by simpa using hp'
  subst e
  refine ⟨hDo, I.hok.fresh hD, hDC, fun z => ?_, hd⟩
  have z' : D ∈ frs X.stack := z
  obtain ⟨_, o2, ho2, _⟩ := I.stack.mem z'
  exact absurd (Nat.lt_of_lt_of_le (Heap.lt_size ho2) hD) (Nat.lt_irrefl _)
 ·show (cst own.length fr σ).length = N'.length
  unfold cst
  rw [List.length_append, List.length_replicate, List.length_map, lenN]
theorem zakl (I : Inv X pins σ H s) {fp : List Addr} (hf : ∀ b ∈ fp, FpOk X pins H b ∧ ∃ o, s.heap.get? b = some o) {C D : Addr} {its : List Value} {ys : List V} {n : Nat} {σ' : St} {H' : Hp} {s' : Shared}
  (hD : s.heap.objs.size ≤ D) (J : Inv (cxC X sc cl N' C s H fp) [(D, { cls := .type "list", data := .seq its.toArray n })] σ' H' s') (r : Vals ys its) (hz : ys.length ≤ sizeLine) : Inv X pins σ (upd H' D (.lst ys)) s' := by
 obtain ⟨hDo, hDn, hDC, hDf, hDc⟩ := J.pin (D, { cls := .type "list", data := .seq its.toArray n }) (List.mem_append_right _ List.mem_cons_self)
 have u : Un (frs X.stack) fp H H' s.heap s'.heap := J.base
 have os : s'.os = s.os := J.os
 have lt : ∀ b ob, s.heap.get? b = some ob → b ≠ D := fun b ob e z => by
  have := Heap.lt_size e
  rw [z] at this
  exact absurd (Nat.lt_of_lt_of_le this hD) (Nat.lt_irrefl _)
 refine I.call' (ch := fp) os ⟨u.keep, u.slot, fun b ob e n hx => ?_, u.there, fun b xs e => ?_, fun b ob x e => ?_, fun b ps e => ?_⟩ ?_ J.bare (fun b hb => ?_)
 ·rw [zaav (lt b ob e)]; exact u.free b ob e n hx
 ·have := u.tups b xs e
  rw [zaav (zabe this hDn)]; exact this
 ·have := u.frzs b ob x e
  rw [zaav (zabe this hDn)]; exact this
 ·obtain ⟨m, q⟩ := u.tbls b ps e
  exact ⟨m, by rw [zaav (zabe q hDn)]; exact q⟩
 ·intro b ob e
  by_cases hb : b = D
  ·subst hb
   rw [zaah] at e; cases e
   exact ⟨hz, its, n, r, hDo⟩
  ·rw [zaav hb] at e
   exact (J.hok b ob e).stay (fun c v _ q => q) (fun c q => by rw [zaav (zabe q hDn)]; exact q) fun c xs q => by rw [zaav (zabe q hDn)]; exact q
 ·obtain ⟨_, f1, _, f3, f4, f5⟩ := (hf b hb).1
  exact ⟨f3, f1, f4, f5⟩
end
def PIf (X : Cx) (ifs : List Expr) (t : TT) : Prop :=
 ∀ (pins : List (Addr × Obj)) (s : Shared) (σ : St) (H : Hp) (Q : Bool → Hp → Prop), Inv X pins σ H s → t σ H Q →
  wpAny (model X.prog X.w) X.A (forIn ifs true fun c r => if r = true then do let ok ← isTrue c X.env (eval c X.env); pure (ForInStep.yield ok) else pure (ForInStep.yield r)) (TP X pins σ Q) X.xe s
def tYes : TT := fun _ H Q => Q true H
theorem zan8 {X : Cx} : PIf X [] tYes := fun _ _ _ H _ I h => wpAny_tests_nil ⟨H, I, h⟩
theorem zan9 {X : Cx} {c : Expr} {t : TT} (h : PT X c t) : PIf X [c] t := fun pins s σ H Q I q => wpAny_tests_one (h pins s σ H Q I q)
structure Comp (J : It) (g : TG) (tt : TT) (te : TE) (Q : List V → Hp → Prop) (σ : St) (H : Hp) : Prop where
 ex : ∃ W : Nat → Nat → List V → St → Hp → Prop, (∃ m, W 0 m [] σ H) ∧ ∀ i m ys σ H, W i m ys σ H → ys.length < sizeLine ∧
  ((J.stop i H ∧ Q ys H) ∨ (J.go i H ∧ ∃ N : List V → St → Hp → Prop, (∀ ys' σ' H', N ys' σ' H' → ∃ m', m' < m ∧ W (i + 1) m' ys' σ' H') ∧
    ∀ x H', J.yld i H x H' → g x σ H' fun σ2 H2 => tt σ2 H2 fun b H3 => if b = true then te σ2 H3 fun y H4 => N (ys ++ [y]) σ2 H4 else N ys σ2 H3))
section
variable {prog : Program} {w : World} {A : Around} {R : Result → Shared → Prop} {s : Shared}
theorem zahu {elt target iter : Expr} {ifs : List Expr} {scope : Scope} {pos : Pos} {it acc : Value} {env : Env} (I : Nat → Shared → Prop)
  (turn : ∀ n s, I n s → wpAny (model prog w) A (pyNext it) (fun r s₁ => match r with
   | none => R (.ok .next) s₁
   | some v => wpAny (model prog w) A (letOwnedTupleGo target it v) (fun _ s₁ => wpAny (model prog w) A (assign target env v) (fun _ s₂ =>
     wpAny (model prog w) A (forIn ifs true fun c r => if r = true then do let ok ← isTrue c env (eval c env); pure (ForInStep.yield ok) else pure (ForInStep.yield r)) (fun ok s₃ =>
      if ok = true then wpAny (model prog w) A (eval elt env) (fun x s₄ =>
       wpAny (model prog w) A (call (.builtin "list.append") [acc, x]) (fun _ s₅ => ∃ m, m < n ∧ I m s₅) (fun _ _ => False) s₄) (fun _ _ => False) s₃
      else ∃ m, m < n ∧ I m s₃) (fun _ _ => False) s₂) (fun _ _ => False) s₁) (fun _ _ => False) s₁) (fun _ _ => False) s)
  (n : Nat) (h : I n s) : codeAny (model prog w) A (.compLoop (.ListComp elt [⟨target, iter, ifs, 0⟩] scope pos) 0 it acc env) R s := by
 refine codeAny_loop rfl I (fun n s hI => ?_) n h
 show wpAny _ A ((compTurn (.ListComp elt [⟨target, iter, ifs, 0⟩] scope pos) 0 it acc env).onRaise (fun x => do noteFrame x env; theTreesLotGoes x)) _ _ s
 refine wpAny_noted (wpAny_noRaise ?_)
 rw [compTurn_list]
 refine wpAny_bind (wpAny_standAt (wpAny_bind (wpAny_mono (turn n s hI) (fun r s₁ h₁ => ?_) fun _ _ h' => h')))
 cases r with
 | none => exact wpAny_pure h₁
 | some v =>
  refine wpAny_bind (wpAny_mono h₁ (fun _ s₁ h₁ => ?_) fun _ _ h' => h')
  refine wpAny_bind (wpAny_mono h₁ (fun _ s₂ h₂ => wpAny_bind (wpAny_mono h₂ (fun ok s₃ h₃ => ?_) fun _ _ h' => h')) fun _ _ h' => h')
  cases ok with
  | false => exact wpAny_pure ⟨rfl, h₃⟩
  | true =>
   exact wpAny_bind (wpAny_bind (wpAny_mono h₃ (fun x s₄ h₄ => wpAny_bind (wpAny_mono h₄ (fun _ s₅ h₅ => wpAny_pure (wpAny_pure ⟨rfl, h₅⟩)) fun _ _ h' => h')) fun _ _ h' => h'))
end
end L2

namespace L2
open PySem PySem.Spec PyProof.Rows
structure TurnX (G : Cx → Prop) (P : Program) (w : World) (K : PySem.W.Frag) (tg : Expr) (J : It) (fp : List Addr) (it : Addr) (tn : Nat → Heap → Prop) : Prop where
 obj : ∀ i h, tn i h → ∀ b ∈ fp, ∃ o, h.get? b = some o ∧ ∀ v, o.data ≠ .cell v
 keep : ∀ i h h', tn i h → (∀ b ∈ fp, ∀ o, h.get? b = some o → h'.get? b = some o) → tn i h'
 item : ∀ (X : Cx), X.prog = P → X.w = w → X.K = K → G X → ∀ (i : Nat) (pins : List (Addr × Obj)) (s : Shared) (σ : St) (H : Hp) (E : Value → Shared → Prop), Inv X pins σ H s → (∀ b ∈ fp, FpOk X pins H b) → tn i s.heap → J.go i H →
  wpAny (model P w) X.A (pyNext (.ref it)) (fun r s1 => ∃ u, r = some u ∧
   wpAny (model P w) X.A (letOwnedTupleGo tg (.ref it) u) (fun _ s2 => ∃ x H', Inv X pins σ H' s2 ∧ RelV x u ∧ J.yld i H x H' ∧ tn (i + 1) s2.heap ∧ ∀ b ∈ fp, H' b = none) E s1) E s
 done : ∀ (X : Cx), X.prog = P → X.w = w → X.K = K → G X → ∀ (i : Nat) (pins : List (Addr × Obj)) (s : Shared) (σ : St) (H : Hp) (E : Value → Shared → Prop), Inv X pins σ H s → (∀ b ∈ fp, FpOk X pins H b) → tn i s.heap → J.stop i H →
  wpAny (model P w) X.A (pyNext (.ref it)) (fun r s1 => r = none ∧ Inv X pins σ H s1) E s
 self : ∀ (A : Around) (i : Nat) (s : Shared) (Q : Value → Shared → Prop) (E : Value → Shared → Prop), tn i s.heap → Q (.ref it) s → wpAny (model P w) A (pyIter (.ref it)) Q E s
theorem Turn.x {P : Program} {w : World} {K : PySem.W.Frag} {tg : Expr} {J : It} {fp : List Addr} {it : Addr} {tn : Nat → Heap → Prop} (T : Turn P w K tg J fp it tn) : TurnX (fun X => X.calm = true) P w K tg J fp it tn := ⟨T.obj, T.keep, T.item, T.done, T.self⟩
section
variable {X : Cx} {sc : Scope} {own : List Str} {fr : List Nat} {N' : List Str} {tg elt iter : Expr} {ifs : List Expr} {g : TG} {tt : TT} {te : TE} {wi : TI} {pos : Pos}
theorem zaga {G : Cx → Prop} {pins : List (Addr × Obj)} {σ : St} {H : Hp} {s2 : Shared} {it : Addr} {fp : List Addr} {tn : Nat → Heap → Prop} {J : It} {QQ : List V → Hp → Prop} {cl : List (Str × Addr)} {RR : Value → Addr → Result → Shared → Prop} {E : Value → Shared → Prop}
  (I2 : Inv X pins σ H s2) (hc : ∀ cl C s H fp, G (cxC X sc cl N' C s H fp)) (T : TurnX G X.prog X.w X.K tg J fp it tn) (st : tn 0 s2.heap) (f2 : ∀ b ∈ fp, FpOk X pins H b) (cs : CompOk sc X.env.scope own X.N fr N')
  (h1 : ∀ x c, cl.lookup x = some c → X.env.cells.lookup x = some c) (h2 : ∀ y ∈ sc.names, y.2 = .free → ∃ c, cl.lookup y.1 = some c)
  (hg : ∀ cl C s H fp, PG (cxC X sc cl N' C s H fp) tg g) (hif : ∀ cl C s H fp, PIf (cxC X sc cl N' C s H fp) ifs tt) (he : ∀ cl C s H fp, PE (cxC X sc cl N' C s H fp) elt te)
  (KK : Comp J g tt te QQ (cst own.length fr σ) H)
  (hRR : ∀ D C m H' ys s', s2.heap.objs.size ≤ C → s'.heap.Ns C m → H' D = none → (upd H' D (.lst ys)) C = none → QQ ys H' → Inv X pins σ (upd H' D (.lst ys)) s' → RR (.ref D) C (.ok .next) s') :
  wpAny (model X.prog X.w) X.A (newList []) (fun acc s₃ => wpAny (model X.prog X.w) X.A (newFunctionEnv sc X.env.globals cl [] X.env.qual none .none (some X.env)) (fun cenv s₄ =>
   codeAny (model X.prog X.w) X.A (.compStart (.ListComp elt [⟨tg, iter, ifs, 0⟩] sc pos) 0 (.ref it) acc { cenv with scope := relabel sc X.env }) (RR acc cenv.locals) s₄) E s₃) E s2 := by
 refine wpAny_newObj_type (wpAny_newFunctionEnv cs.nocell (by intro y hy; simp at hy) (fun h₁ hns₁ hsb₁ => ?_) cs.kind)
 dsimp only at hns₁ hsb₁ ⊢
 generalize hH2 : s2.heap.push { cls := .type "list", dict := none, data := .seq ([] : List Value).toArray } = H2 at hns₁ hsb₁ ⊢
 have hC : H2.objs.size = s2.heap.objs.size + 1 := by rw [← hH2, Heap.size_push]
 have hDC : s2.heap.objs.size ≠ H2.objs.size := by rw [hC]; exact Nat.ne_of_lt (Nat.lt_succ_self _)
 have hCle : s2.heap.objs.size ≤ H2.objs.size := by rw [hC]; exact Nat.le_succ _
 have below : ∀ b, b < s2.heap.objs.size → b ≠ H2.objs.size ∧ b ≠ s2.heap.objs.size := fun b hb => ⟨by rw [hC]; exact Nat.ne_of_lt (Nat.lt_succ_of_lt hb), Nat.ne_of_lt hb⟩
 have old : ∀ b o, s2.heap.get? b = some o → h₁.get? b = some o := fun b o e => hsb₁.extBut b o (below b (Heap.lt_size e)).1 (Heap.get?_push_of_some _ (hH2 ▸ Heap.get?_push_of_some _ e))
 have hacc : h₁.get? s2.heap.objs.size = some { cls := .type "list", data := .seq ([] : List Value).toArray 0 } := hsb₁.extBut _ _ hDC (Heap.get?_push_of_some _ (hH2 ▸ Heap.get?_push_size _ rfl))
 have fpo : ∀ b ∈ fp, FpOk X pins H b ∧ ∃ o, s2.heap.get? b = some o := fun b hb => ⟨f2 b hb, let ⟨o, e, _⟩ := T.obj 0 _ st b hb; ⟨o, e⟩⟩
 have st1 : tn 0 h₁ := T.keep _ _ _ st fun b hb o e => old b o e
 have hns : h₁.Ns H2.objs.size fun _ => none := by simpa using hns₁
 obtain ⟨W, ⟨m0, w0⟩, turn⟩ := KK.ex
 have loop : ∀ s₃ : Shared, s₃ = { s2 with heap := h₁, toks := s2.toks + ([] : List (Str × Value)).length } →
   codeAny (model X.prog X.w) X.A (.compLoop (.ListComp elt [⟨tg, iter, ifs, 0⟩] sc pos) 0 (.ref it) (.ref s2.heap.objs.size) (compEnvC sc cl H2.objs.size X.env)) (RR (.ref s2.heap.objs.size) H2.objs.size) s₃ := by
  rintro s₃ rfl
  have J0 : Inv (cxC X sc cl N' H2.objs.size s2 H fp) [(s2.heap.objs.size, { cls := .type "list", data := .seq ([] : List Value).toArray 0 })] (cst own.length fr σ) H { s2 with heap := h₁, toks := s2.toks + ([] : List (Str × Value)).length } :=
   zaic I2 cs h1 h2 fpo hCle (Nat.le_refl _) hDC old hns hacc (fun v z => by cases z)
  have stat : ∀ {pl : List (Addr × Obj)} {H' : Hp}, (∀ p ∈ pl, p.1 = s2.heap.objs.size) → (∀ b ∈ fp, H' b = none) → ∀ b ∈ fp, FpOk (cxC X sc cl N' H2.objs.size s2 H fp) pl H' b := fun {pl H'} hpl hn b hb => by
   obtain ⟨f, ob, e⟩ := fpo b hb
   refine ⟨hn b hb, (below b (Heap.lt_size e)).1, fun z => ?_, .inl hb, fun x c ec => f.2.2.2.2.1 x c (h1 x c ec), fun p hp => ?_⟩
   ·have z' : b ∈ frs X.stack := z
    rcases List.mem_cons.mp (I2.stkSub b z') with q | q
    ·exact f.2.1 q
    ·exact f.2.2.1 q
   ·have hp' : p ∈ pl := hp
    rw [hpl p hp']
    exact Ne.symm (below b (Heap.lt_size e)).2
  have one : ∀ (o : Obj), ∀ p ∈ [(s2.heap.objs.size, o)], p.1 = s2.heap.objs.size := fun o p hp => by
   have : p = (s2.heap.objs.size, o) := by simpa using hp
   rw [this]
  refine zahu (env := compEnvC sc cl H2.objs.size X.env) (fun n s' => ∃ i ys its k σ' H', Inv (cxC X sc cl N' H2.objs.size s2 H fp) [(s2.heap.objs.size, { cls := .type "list", data := .seq (its : List Value).toArray k })] σ' H' s' ∧ tn i s'.heap ∧ (∀ b ∈ fp, H' b = none) ∧ Vals ys its ∧ W i n ys σ' H')
   ?_ m0 ⟨0, [], [], 0, _, H, J0, st1, fun b hb => (f2 b hb).1, .nil, w0⟩
  rintro n s3 ⟨i, ys, its, k, σ3, H3, I3, st3, fr3, rv, w3⟩
  obtain ⟨hlen, alt⟩ := turn i n ys σ3 H3 w3
  rcases alt with ⟨stop, qn⟩ | ⟨go, N, hN, step⟩
  ·refine wpAny_mono (T.done (cxC X sc cl N' H2.objs.size s2 H fp) rfl rfl rfl (hc _ _ _ _ _) i _ s3 σ3 H3 (fun _ _ => False) I3 (stat (one _) fr3) st3 stop) (fun r s4 ⟨hr, I4⟩ => ?_) fun _ _ z => z
   subst hr
   obtain ⟨m, hm, _⟩ := I4.loc
   have hDn : H3 s2.heap.objs.size = none := (I4.pin (s2.heap.objs.size, { cls := .type "list", data := .seq its.toArray k }) (List.mem_append_right _ List.mem_cons_self)).2.1
   exact hRR _ _ m H3 ys s4 hCle hm hDn (by rw [zaav (Ne.symm hDC)]; exact I4.free) qn (zakl I2 fpo (Nat.le_refl _) I4 rv (Nat.le_of_lt hlen))
  ·refine wpAny_mono (T.item (cxC X sc cl N' H2.objs.size s2 H fp) rfl rfl rfl (hc _ _ _ _ _) i _ s3 σ3 H3 (fun _ _ => False) I3 (stat (one _) fr3) st3 go) (fun r s4 ⟨u, hr, h4⟩ => ?_) fun _ _ z => z
   subst hr
   refine wpAny_mono h4 (fun _ s5 ⟨x, H5, I5, r5, y5, st5, fr5⟩ => ?_) fun _ _ z => z
   have I5' := I5.pinned (stat (one _) fr5) (T.obj _ _ st5)
   refine wpAny_mono (hg cl H2.objs.size s2 H fp _ s5 σ3 H5 x u _ I5' r5 (step x H5 y5)) (fun _ s6 ⟨σ6, H6, I6, q6⟩ => ?_) fun _ _ z => z
   refine wpAny_mono (hif cl H2.objs.size s2 H fp _ s6 σ6 H6 _ I6 q6) (fun b s7 ⟨H7, I7, q7⟩ => ?_) fun _ _ z => z
   have fps : ∀ {σ8 : St} {H8 : Hp} {s8 : Shared}, Inv (cxC X sc cl N' H2.objs.size s2 H fp) ([(s2.heap.objs.size, { cls := .type "list", data := .seq its.toArray k })] ++ pinsAt fp s5.heap) σ8 H8 s8 →
     tn (i + 1) s8.heap ∧ ∀ b ∈ fp, H8 b = none := fun {σ8 H8 s8} I8 => by
    refine ⟨T.keep _ _ _ st5 fun b hb o e => (I8.pin (b, o) (List.mem_append_right _ (List.mem_append_right _ (zadu hb e)))).1, fun b hb => ?_⟩
    obtain ⟨o, e, d⟩ := T.obj _ _ st5 b hb
    exact (I8.pin (b, o) (List.mem_append_right _ (List.mem_append_right _ (zadu hb e)))).2.1
   cases b with
   | false =>
    obtain ⟨m', hm, w7⟩ := hN ys σ6 H7 q7
    exact ⟨m', hm, i + 1, ys, its, k, σ6, H7, I7.unpinned, (fps I7).1, (fps I7).2, rv, w7⟩
   | true =>
    have q7' : te σ6 H7 fun y H4 => N (ys ++ [y]) σ6 H4 := q7
    refine wpAny_mono (he cl H2.objs.size s2 H fp _ s7 σ6 H7 _ I7 q7') (fun uy s8 ⟨y, H8, I8, r8, n8⟩ => ?_) fun _ _ z => z
    obtain ⟨m', hm, w8⟩ := hN _ _ _ n8
    obtain ⟨hDo, hDn, hDL, hDf, _⟩ := I8.pin (s2.heap.objs.size, { cls := .type "list", data := .seq its.toArray k }) (List.mem_append_right _ (List.mem_append_left _ List.mem_cons_self))
    have hys : its.toArray.size ≤ sizeLine := by rw [List.size_toArray, ← rv.length]; exact Nat.le_of_lt hlen
    refine wpAny_list_append_plain (hsz := hys) (⟨k, hDo⟩ : s8.heap.PlainList s2.heap.objs.size its.toArray) fun h9 ⟨k', hl9⟩ hs9 => ?_
    have hDp : ∀ p ∈ (cxC X sc cl N' H2.objs.size s2 H fp).pn ++ pinsAt fp s5.heap, p.1 ≠ s2.heap.objs.size := fun p hp => by
     have hp' : p ∈ pinsAt fp s5.heap := by
      have hp2 : p ∈ ([] : List (Addr × Obj)) ++ pinsAt fp s5.heap := hp
      simpa using hp2
     obtain ⟨hb, _⟩ := zahe hp'
     obtain ⟨_, ob, e⟩ := fpo p.1 hb
     exact (below p.1 (Heap.lt_size e)).2
    have I8' : Inv (cxC X sc cl N' H2.objs.size s2 H fp) (pinsAt fp s5.heap) σ6 H8 s8 := I8.pins_of fun p hp => I8.pin p (List.mem_append_right _ (List.mem_append_right _ hp))
    have I9 : Inv (cxC X sc cl N' H2.objs.size s2 H fp) (pinsAt fp s5.heap) σ6 H8 { s8 with heap := h9 } := I8'.turned (t' := s8.toks) (it := s2.heap.objs.size) (fun b o hb e => (hs9.2 b hb).trans e) hDn hDL (.inr (Nat.le_refl _))
     (fun x c e z => by
      obtain ⟨v, q⟩ := I2.cell x c (h1 x c e)
      have := q.lt
      rw [z] at this
      exact absurd this (Nat.lt_irrefl _)) hDp
    have key := fps I8
    refine ⟨m', hm, i + 1, ys ++ [y], its ++ [uy], k', σ6, H8, I9.pins_of fun p hp => ?_, T.keep _ _ _ key.1 fun b hb o e => ?_, key.2, rv.append (.cons r8 .nil), w8⟩
    ·have e : p = (s2.heap.objs.size, { cls := .type "list", data := .seq (its ++ [uy]).toArray k' }) := by simpa using hp
     subst e
     refine ⟨?_, hDn, hDL, hDf, fun v z => by cases z⟩
     have : (its ++ [uy]).toArray = its.toArray.push uy := by simp
     rw [this]; exact hl9
    ·obtain ⟨_, ob, e2⟩ := fpo b hb
     exact (hs9.2 b (below b (Heap.lt_size e2)).2).trans e
 exact codeAny_compStart_list (loop _ rfl) (wpAny_mono (T.self X.A 0 _ (fun it' s' => it' = .ref it ∧ s' = { s2 with heap := h₁, toks := s2.toks + ([] : List (Str × Value)).length }) _ st1 ⟨rfl, rfl⟩) (fun it' s' ⟨e1, e2⟩ => by subst e1 e2; exact loop _ rfl) fun _ _ z => z)
def tComp (n : Nat) (fr : List Nat) (wi : TI) (g : TG) (tt : TT) (te : TE) : TE := fun σ H Q => wi σ H fun J H1 => Comp J g tt te (fun ys H2 => ∀ D, H2 D = none → Q (.ref D) (upd H2 D (.lst ys))) (cst n fr σ) H1
theorem zaoa (hc : X.calm = true) (cs : CompOk sc X.env.scope own X.N fr N') (hi : PI X tg iter wi) (hg : ∀ cl C s H fp, PG (cxC X sc cl N' C s H fp) tg g) (hif : ∀ cl C s H fp, PIf (cxC X sc cl N' C s H fp) ifs tt)
  (he : ∀ cl C s H fp, PE (cxC X sc cl N' C s H fp) elt te) (hs : ∀ x, foldedSetIterable iter X.env x = pure x := by intro _; rfl) : PE X (.ListComp elt [⟨tg, iter, ifs, 0⟩] sc pos) (tComp own.length fr wi g tt te) := by
 intro pins s σ H Q I h
 obtain ⟨cl, ecl, h1, h2⟩ := zafl (env := X.env) (sc := sc) fun y hy hf => I.ok.has y.1 (cs.fre y hy hf)
 rw [eval_ListComp]
 refine wpAny_comprehension_free (use := none) rfl hs ecl cs.kind cs.loc (thn (hi pins s σ H _ I h) fun v s1 q1 => thn q1 fun itv s2 q2 => ?_)
 obtain ⟨it, fp, tn, J, H2, rfl, I2, T, st, f2, KK⟩ := q2
 refine zaga (RR := fun acc C => compPost (model X.prog X.w) X.A X.xe none (EP X pins σ Q) acc C) I2 (fun _ _ _ _ _ => hc) T.x st f2 cs h1 h2 hg hif he KK fun D C m H' ys s' hC hn hD hCn hq I' => ?_
 refine ⟨m, hn, fun h' hs' => ⟨.ref D, upd H' D (.lst ys), ?_, rfl, hq D hD⟩⟩
 obtain ⟨f0, f1, f2, f3, f4, f5⟩ := I2.fpOk hC hCn
 exact I'.turned (t' := s'.toks) (it := C) (fun b o hb e => (hs'.2 b hb).trans e) f0 (Ne.symm (Ne.symm f1)) f3 f4 f5
def tSetC (i n : Nat) (fr : List Nat) (wi : TI) (g : TG) (tt : TT) (te : TE) : TS := fun D σ H => wi σ H fun J H1 => Comp J g tt te (fun ys H2 => ∀ p, H2 p = none → D.nx (σ.set i (some (.ref p))) (upd H2 p (.lst ys))) (cst n fr σ) H1
theorem zaob {i : Nat} {y : Str} {py spos : Pos} (hN : X.N.Nodup) (hy : X.N[i]? = some y) (hx : Loc X.env.scope y) (hc : X.calm = true) (cs : CompOk sc X.env.scope own X.N fr N') (hi : PI X tg iter wi)
  (hg : ∀ cl C s H fp, PG (cxC X sc cl N' C s H fp) tg g) (hif : ∀ cl C s H fp, PIf (cxC X sc cl N' C s H fp) ifs tt) (he : ∀ cl C s H fp, PE (cxC X sc cl N' C s H fp) elt te)
  (hsw : swapsWith (.ListComp elt [⟨tg, iter, ifs, 0⟩] sc pos) (some (.Name y py)) spos.line X.env = pure true) (hfn : X.fn y = true ∨ X.env.scope.names.lookup y = some .local := by first | exact .inl rfl | exact .inr rfl | assumption) (hs : ∀ x, foldedSetIterable iter X.env x = pure x := by intro _; rfl) :
  PS X (.Assign [.Name y py] (.ListComp elt [⟨tg, iter, ifs, 0⟩] sc pos) spos) (tSetC i own.length fr wi g tt te) := by
 intro pins s σ H D I h
 obtain ⟨cl, ecl, h1, h2⟩ := zafl (env := X.env) (sc := sc) fun y hy hf => I.ok.has y.1 (cs.fre y hy hf)
 rw [exec_Assign_Name_used _ _ _ _ hsw]
 refine wpAny_bind (wpAny_standAt (wpAny_bind ?_))
 show wpAny _ X.A (do let _ ← comprehension (.ListComp elt [⟨tg, iter, ifs, 0⟩] sc pos) sc X.env _ (newList []) false (eval iter X.env) (some (assign (.Name y py) X.env))) _ _ s
 refine wpAny_bind (wpAny_mono (wpAny_comprehension_free (use := some (assign (.Name y py) X.env)) (Q := fun _ s' => ∃ σ' H', Inv X pins σ' H' s' ∧ D.nx σ' H') rfl hs ecl cs.kind cs.loc (thn (hi pins s σ H _ I h) fun v s1 q1 => thn q1 fun itv s2 q2 => ?_))
  (fun _ s' hq => wpAny_pure (wpAny_pure hq)) fun _ _ e => e)
 obtain ⟨it, fp, tn, J, H2, rfl, I2, T, st, f2, KK⟩ := q2
 refine zaga (RR := fun acc C => compPost (model X.prog X.w) X.A X.xe (some (assign (.Name y py) X.env)) (fun _ s' => ∃ σ' H', Inv X pins σ' H' s' ∧ D.nx σ' H') acc C) I2 (fun _ _ _ _ _ => hc) T.x st f2 cs h1 h2 hg hif he KK fun p C m H' ys s' hC hn hD hCn hq I' => ?_
 obtain ⟨f0, f1, f2, f3, f4, f5⟩ := I2.fpOk hC hCn
 show wpAny _ X.A (assign (.Name y py) X.env (.ref p)) _ _ _
 refine wpAny_assign_Name (zahd (v := .ref p) I' hN hy hx rfl (fun s'' I'' ⟨a, hsa, ha⟩ => ?_) hfn)
 have hCa : C ≠ a := by
  rcases ha with z | z
  ·rw [z]; exact f1
  ·exact Ne.symm (f4 y a z)
 refine ⟨m, hn.sameBut hsa hCa, fun h' hs' => ⟨_, _, ?_, hq p hD⟩⟩
 exact I''.turned (t' := s''.toks) (it := C) (fun b o hb e => (hs'.2 b hb).trans e) f0 f1 f3 f4 f5
end
theorem zaid {J : It} {g : TG} {tt : TT} {te : TE} {Q : List V → Hp → Prop} {σ : St} {H : Hp} (n : Nat) (Pv : Nat → List V → St → Hp → Prop) (h0 : Pv 0 [] σ H) (hl : ∀ i ys σ H, i ≤ n → Pv i ys σ H → ys.length < sizeLine)
  (go : ∀ i ys σ H, i < n → Pv i ys σ H → J.go i H) (stop : ∀ ys σ H, Pv n ys σ H → J.stop n H)
  (turn : ∀ i ys σ H, i < n → Pv i ys σ H → ∀ x H', J.yld i H x H' → g x σ H' fun σ2 H2 => tt σ2 H2 fun b H3 => if b = true then te σ2 H3 fun y H4 => Pv (i + 1) (ys ++ [y]) σ2 H4 else Pv (i + 1) ys σ2 H3)
  (after : ∀ ys σ H, Pv n ys σ H → Q ys H) : Comp J g tt te Q σ H := by
 refine ⟨fun i m ys σ H => i ≤ n ∧ m = n - i ∧ Pv i ys σ H, ⟨n, Nat.zero_le _, rfl, h0⟩, fun i m ys σ H ⟨hi, hm, p⟩ => ⟨hl i ys σ H hi p, ?_⟩⟩
 rcases Nat.lt_or_ge i n with h | h
 ·exact .inr ⟨go i ys σ H h p, Pv (i + 1), fun ys' σ' H' q => ⟨n - (i + 1), by omega, h, rfl, q⟩, turn i ys σ H h p⟩
 ·have e : i = n := Nat.le_antisymm hi h
  subst e
  exact .inl ⟨stop ys σ H p, after ys σ H p⟩
theorem zad9 {K : PySem.W.Frag} {a : Addr} (xs : List V) {g : TG} {tt : TT} {te : TE} {Q : List V → Hp → Prop} {σ : St} {H : Hp} (Pv : Nat → List V → St → Hp → Prop) (hn : xs.length < sizeLine) (h0 : Pv 0 [] σ H) (hl : ∀ i ys σ H, i ≤ xs.length → Pv i ys σ H → ys.length ≤ i ∧ SqL K H a xs)
  (turn : ∀ i ys σ H x, xs[i]? = some x → Pv i ys σ H → g x σ H fun σ2 H2 => tt σ2 H2 fun b H3 => if b = true then te σ2 H3 fun y H4 => Pv (i + 1) (ys ++ [y]) σ2 H4 else Pv (i + 1) ys σ2 H3)
  (after : ∀ ys σ H, Pv xs.length ys σ H → Q ys H) : Comp (Itl K a) g tt te Q σ H :=
 zaid xs.length Pv h0 (fun i ys σ H hi p => Nat.lt_of_le_of_lt (Nat.le_trans (hl i ys σ H hi p).1 hi) hn) (fun i ys σ H hi p => ⟨xs, xs[i], (hl i ys σ H (Nat.le_of_lt hi) p).2, List.getElem?_eq_getElem hi⟩)
  (fun ys σ H p => ⟨xs, (hl _ ys σ H (Nat.le_refl _) p).2, Nat.le_refl _⟩) (fun i ys σ H hi p x H' y => by obtain ⟨rfl, y⟩ := y; exact turn i ys σ _ x (y xs (hl i ys σ _ (Nat.le_of_lt hi) p).2) p) after
theorem zaea {K : PySem.W.Frag} {a : Addr} (xs : List V) {g : TG} {tt : TT} {te : TE} {Q : List V → Hp → Prop} {σ : St} {H : Hp} (Pv : Nat → List V → St → Hp → Prop) (hn : xs.length < sizeLine) (h0 : Pv 0 [] σ H) (hl : ∀ i ys σ H, i ≤ xs.length → Pv i ys σ H → ys.length ≤ i ∧ SqT K H a xs)
  (turn : ∀ i ys σ H x, xs[i]? = some x → Pv i ys σ H → g x σ H fun σ2 H2 => tt σ2 H2 fun b H3 => if b = true then te σ2 H3 fun y H4 => Pv (i + 1) (ys ++ [y]) σ2 H4 else Pv (i + 1) ys σ2 H3)
  (after : ∀ ys σ H, Pv xs.length ys σ H → Q ys H) : Comp (Itt K a) g tt te Q σ H :=
 zaid xs.length Pv h0 (fun i ys σ H hi p => Nat.lt_of_le_of_lt (Nat.le_trans (hl i ys σ H hi p).1 hi) hn) (fun i ys σ H hi p => ⟨xs, xs[i], (hl i ys σ H (Nat.le_of_lt hi) p).2, List.getElem?_eq_getElem hi⟩)
  (fun ys σ H p => ⟨xs, (hl _ ys σ H (Nat.le_refl _) p).2, Nat.le_refl _⟩) (fun i ys σ H hi p x H' y => by obtain ⟨rfl, y⟩ := y; exact turn i ys σ _ x (y xs (hl i ys σ _ (Nat.le_of_lt hi) p).2) p) after
end L2

namespace L2
open PySem PySem.Spec PyProof.Rows
open AutoSeq1 (wpAny_loadPart') in
set_option maxHeartbeats 4000000 in
theorem zafm (k : SK) (l : Addr) (xs : Array Value) :
  Meets (Builtin.«enumerate.__new__» ⟨[.type "enumerate", .ref l], []⟩) (fun _ R s => SIs k s.heap l xs ∧
   R (.ok (.ret (.ref (s.heap.push (itObj k l)).objs.size))) { s with heap := (s.heap.push (itObj k l)).push { cls := .type "enumerate", data := .fields #[.none, .bool false, .ref s.heap.objs.size, rawInt 0, .none, .none] } }) := by
 cases k with
 | list =>
  exact .of_wp fun prog w A R s h => by
   obtain ⟨hp, g, d, tk, os⟩ := s; obtain ⟨hL, h⟩ := h
   have hsub := sub_enumerate
   have hL : Heap.IsList (Shared.heap ⟨hp, g, d, tk, os⟩) l xs := hL
   obtain ⟨ol, hl, hlc, nl, hld⟩ := id hL
   wp_walk using wpAny_loadPart' hl
   refine wpAny_stack_any fun st => wpAny_pure ?_
   split
   ·rename_i c _ _ _ _ _
    cases (c == Value.type "enumerate")
    ·wp_walk using wpAny_loadPart' hl, wpAny_pyIter_list hL
     exact ⟨_, rfl, h⟩
    ·wp_walk using wpAny_loadPart' hl, wpAny_pyIter_list hL
     exact ⟨_, rfl, h⟩
   ·wp_walk using wpAny_loadPart' hl, wpAny_pyIter_list hL
    exact ⟨_, rfl, h⟩
 | tuple =>
  exact .of_wp fun prog w A R s h => by
   obtain ⟨hp, g, d, tk, os⟩ := s; obtain ⟨hL, h⟩ := h
   have hsub := sub_enumerate
   have hL : Heap.IsTuple (Shared.heap ⟨hp, g, d, tk, os⟩) l xs := hL
   obtain ⟨ol, hl, hlc, nl, hld⟩ := id hL
   wp_walk using wpAny_loadPart' hl
   refine wpAny_stack_any fun st => wpAny_pure ?_
   split
   ·rename_i c _ _ _ _ _
    cases (c == Value.type "enumerate")
    ·wp_walk using wpAny_loadPart' hl, wpAny_pyIter_tuple hL
     exact ⟨_, rfl, h⟩
    ·wp_walk using wpAny_loadPart' hl, wpAny_pyIter_tuple hL
     exact ⟨_, rfl, h⟩
   ·wp_walk using wpAny_loadPart' hl, wpAny_pyIter_tuple hL
    exact ⟨_, rfl, h⟩
section
variable {prog : Program} {w : World} {A : Around} {E : Value → Shared → Prop} {s : Shared}
theorem zajm {k : SK} {l : Addr} {xs : Array Value} {Q : Value → Shared → Prop} (hL : SIs k s.heap l xs)
  (h : ∀ h', IsEnum h' (s.heap.objs.size + 1) s.heap.objs.size 0 .none → SIt k h' s.heap.objs.size l 0 → (∀ b o, s.heap.get? b = some o → h'.get? b = some o) → Q (.ref (s.heap.objs.size + 1)) { s with heap := h' }) :
  wpAny (model prog w) A (call (.type "enumerate") [.ref l]) Q E s := by
 refine callType_new F.called_enumerate (by decide) (F.typeCall_enumerate_1 _) (F.newCall_enumerate_1 _) (fun obj => F.args_object_init_2 obj _) F.entry_enumerate_new (zafm k l xs) ⟨hL, ?_⟩
 have hz : (s.heap.push (itObj k l)).objs.size = s.heap.objs.size + 1 := Heap.size_push ..
 have r1 : (itObj k l).isFreed = false := by cases k <;> rfl
 have he := Heap.get?_push_size (s.heap.push (itObj k l)) (o := { cls := .type "enumerate", data := .fields #[.none, .bool false, .ref s.heap.objs.size, rawInt 0, .none, .none] }) rfl
 rw [hz] at he
 show _ ∧ _
 rw [hz]
 exact ⟨⟨_, he, rfl⟩, h _ he (zago (Heap.get?_push_of_some _ (Heap.get?_push_size _ r1))) fun b o x => Heap.get?_push_of_some _ (Heap.get?_push_of_some _ x)⟩
theorem zajn {k : SK} {e it l : Addr} {i : Nat} {items : Array Value} {x old : Value} {Q : Value → Shared → Prop}
  (he : IsEnum s.heap e it i old) (hit : SIt k s.heap it l i) (hl : SIs k s.heap l items) (hx : items[i]? = some x) (hne : e ≠ it)
  (hQ : ∀ h', IsEnumOut h' e it ((i : Int) + 1) x s.heap.objs.size → SIt k h' it l (i + 1) →
   h'.get? s.heap.objs.size = some { cls := .type "tuple", data := .seq #[.int i s.toks, x] } → h'.objs.size = s.heap.objs.size + 1 →
   (∀ b o, b ≠ e → b ≠ it → s.heap.get? b = some o → h'.get? b = some o) → Q (.ref s.heap.objs.size) { s with heap := h', toks := s.toks + 1 }) :
  wpAny (model prog w) A (Builtin.«enumerate.__next__» ⟨[.ref e], []⟩) (fun fin s' => ∃ v, fin = .done (.ret v) ∧ Q v s') E s := by
 obtain ⟨hp, g, d, tk, os⟩ := s
 show wpAny _ _ (field (.ref e) 2 >>= _) _ _ _
 refine wpAny_bind (wpAny_field he rfl (x := .ref it) rfl ?_)
 refine wpAny_bind (zac9 hit hl hx fun h₁ hit₁ hs₁ => ?_)
 replace hs₁ : Heap.SameBut it hp h₁ := hs₁
 have he₁ : IsEnum h₁ e it i old := (hs₁.2 e hne).trans he
 show wpAny _ _ (field (.ref e) 3 >>= _) _ _ ⟨h₁, g, d, tk, os⟩
 refine wpAny_bind (wpAny_field he₁ rfl (x := rawInt i) rfl ?_)
 show wpAny _ _ (field (.ref e) 4 >>= _) _ _ ⟨h₁, g, d, tk, os⟩
 refine wpAny_bind (wpAny_field he₁ rfl (x := .none) rfl ?_)
 show wpAny _ _ (mkInt i >>= _) _ _ ⟨h₁, g, d, tk, os⟩
 refine wpAny_bind (wpAny_mkInt ?_)
 show wpAny _ _ (setField (.ref e) 3 (rawInt ((i : Int) + 1)) >>= _) _ _ ⟨h₁, g, d, tk + 1, os⟩
 refine wpAny_bind (wpAny_setField_rec he₁ (by simp) fun h₂ he₂ hs₂ => ?_)
 replace hs₂ : Heap.SameBut e h₁ h₂ := hs₂
 replace he₂ : IsEnum h₂ e it ((i : Int) + 1) old := he₂
 show wpAny _ _ (setField (.ref e) 4 .none >>= _) _ _ ⟨h₂, g, d, tk + 1, os⟩
 refine wpAny_bind (wpAny_setField_rec he₂ (by simp) fun h₃ he₃ hs₃ => ?_)
 replace hs₃ : Heap.SameBut e h₂ h₃ := hs₃
 replace he₃ : IsEnum h₃ e it ((i : Int) + 1) old := he₃
 show wpAny _ _ (newTuple [.int i tk, x] >>= _) _ _ ⟨h₃, g, d, tk + 1, os⟩
 refine wpAny_bind (wpAny_newTuple ?_)
 have he₄ : IsEnum (h₃.push { cls := .type "tuple", data := .seq #[.int i tk, x] }) e it ((i : Int) + 1) old := Heap.get?_push_of_some _ he₃
 generalize hh₄ : h₃.push { cls := .type "tuple", data := .seq #[.int i tk, x] } = h₄ at he₄
 have hsz : h₃.objs.size = hp.objs.size := by rw [hs₃.1, hs₂.1, hs₁.1]
 have hel : e < hp.objs.size := Heap.lt_size he
 have ht₄ : h₄.get? hp.objs.size = some { cls := .type "tuple", data := .seq #[.int i tk, x] } := by rw [← hh₄, ← hsz]; exact Heap.get?_push_size _ rfl
 have hz₄ : h₄.objs.size = hp.objs.size + 1 := by rw [← hh₄, Heap.size_push, hsz]
 have hk₄ : ∀ b o, b ≠ e → b ≠ it → hp.get? b = some o → h₄.get? b = some o := fun b o hbe hbi hb => by
  rw [← hh₄]; exact Heap.get?_push_of_some _ (hs₃.extBut b o hbe (hs₂.extBut b o hbe (hs₁.extBut b o hbi hb)))
 have hit₄ : SIt k h₄ it l (i + 1) := by
  rw [← hh₄]; exact ((hit₁.ext hs₂.extBut (Ne.symm hne)).ext hs₃.extBut (Ne.symm hne)).at fun o ho => Heap.get?_push_of_some _ ho
 show wpAny _ _ (Builtin.SmallTypes.ownedTupleIsFree (.ref e) >>= _) _ _ ⟨h₄, g, d, tk + 1, os⟩
 rw [hsz]
 clear hh₄ he₃ hs₃ he₂ hs₂ he₁ hs₁ hit₁ hsz h₃ h₂ h₁
 refine wpAny_bind ?_
 ·unfold Builtin.SmallTypes.ownedTupleIsFree
  refine wpAny_bind (wpAny_field he₄ rfl (x := .none) rfl (wpAny_pure ?_))
  simp only [if_true]
  refine wpAny_bind (wpAny_rule ?_)
  refine wpAny_bind (wpAny_field he₄ rfl (x := old) rfl ?_)
  refine wpAny_bind (wpAny_setField_rec he₄ (by simp) fun h₅ he₅ hs₅ => ?_)
  replace hs₅ : Heap.SameBut e h₄ h₅ := hs₅
  replace he₅ : IsEnum h₅ e it ((i : Int) + 1) x := he₅
  show wpAny _ _ (Builtin.SmallTypes.ownedTupleHandOut (.ref e) (.ref hp.objs.size) >>= _) _ _ ⟨h₅, g, d, tk + 1, os⟩
  refine wpAny_bind ?_
  ·unfold Builtin.SmallTypes.ownedTupleHandOut
   refine wpAny_bind (wpAny_setField_rec he₅ (by simp) fun h₆ he₆ hs₆ => ?_)
   replace hs₆ : Heap.SameBut e h₅ h₆ := hs₆
   replace he₆ : IsEnumOut h₆ e it ((i : Int) + 1) x hp.objs.size := he₆
   refine wpAny_setField_rec he₆ (by simp) fun h₇ he₇ hs₇ => ?_
   replace hs₇ : Heap.SameBut e h₆ h₇ := hs₇
   replace he₇ : IsEnumOut h₇ e it ((i : Int) + 1) x hp.objs.size := he₇
   refine wpAny_bind (wpAny_letGo (wpAny_pure ⟨_, rfl, hQ h₇ he₇ ?_ ?_ ?_ ?_⟩))
   ·exact ((hit₄.ext hs₅.extBut (Ne.symm hne)).ext hs₆.extBut (Ne.symm hne)).ext hs₇.extBut (Ne.symm hne)
   ·exact hs₇.extBut _ _ (Nat.ne_of_gt hel) (hs₆.extBut _ _ (Nat.ne_of_gt hel) (hs₅.extBut _ _ (Nat.ne_of_gt hel) ht₄))
   ·rw [hs₇.1, hs₆.1, hs₅.1, hz₄]
   ·exact fun b o hbe hbi hb => hs₇.extBut b o hbe (hs₆.extBut b o hbe (hs₅.extBut b o hbe (hk₄ b o hbe hbi hb)))
theorem zaem {k : SK} {e it l : Addr} {i : Nat} {items : Array Value} {x old : Value} {Q : Option Value → Shared → Prop}
  (he : IsEnum s.heap e it i old) (hit : SIt k s.heap it l i) (hl : SIs k s.heap l items) (hx : items[i]? = some x) (hne : e ≠ it)
  (hQ : ∀ h', IsEnumOut h' e it ((i : Int) + 1) x s.heap.objs.size → SIt k h' it l (i + 1) →
   h'.get? s.heap.objs.size = some { cls := .type "tuple", data := .seq #[.int i s.toks, x] } → h'.objs.size = s.heap.objs.size + 1 →
   (∀ b o, b ≠ e → b ≠ it → s.heap.get? b = some o → h'.get? b = some o) → Q (some (.ref s.heap.objs.size)) { s with heap := h', toks := s.toks + 1 }) :
  wpAny (model prog w) A (pyNext (.ref e)) Q E s := by
 have hT : s.TypeIs (.ref e) "enumerate" := ⟨_, he, rfl⟩
 unfold pyNext
 exact wpAny_bind (wpAny_attempt (wpAny_callSpecial?_slot (name := Str.ofString "__next__") hT F.slot_enumerate_next
  (wpAny_call_entry F.slot_enumerate_next hT F.entry_enumerate_next
   (zajn he hit hl hx hne fun h' a b c d k => wpAny_pure (hQ h' a b c d k)) (F.args_enumerate_next_1 _))))
theorem zae6 {k : SK} {e it l : Addr} {i : Nat} {items : Array Value} {old : Value} {Q : Option Value → Shared → Prop} (hh : A.handled = none)
  (he : IsEnum s.heap e it i old) (hit : SIt k s.heap it l i) (hl : SIs k s.heap l items) (hx : items[i]? = none)
  (hQ : ∀ h', Heap.ExtBut it s.heap h' → Q none { s with heap := h' }) : wpAny (model prog w) A (pyNext (.ref e)) Q E s := by
 have hT : s.TypeIs (.ref e) "enumerate" := ⟨_, he, rfl⟩
 unfold pyNext
 refine wpAny_bind (wpAny_attempt (wpAny_callSpecial?_slot (name := Str.ofString "__next__") hT F.slot_enumerate_next
  (wpAny_call_entry F.slot_enumerate_next hT F.entry_enumerate_next ?_ (F.args_enumerate_next_1 _))))
 show wpAny _ _ (field (.ref e) 2 >>= _) _ _ _
 refine wpAny_bind (wpAny_field he rfl (x := .ref it) rfl ?_)
 refine wpAny_bind (zaej hh hit hl hx fun h' x he' hx' => ?_)
 obtain ⟨o, ho, hc⟩ := hx'
 refine wpAny_bind (wpAny_isInstance (T := "StopIteration") (b := true) ⟨o, ho, hc⟩ isSubtype_stop ?_)
 exact wpAny_pure (hQ _ he')
end
def Itn (K : PySem.W.Frag) (k : SK) (a : Addr) : It :=
 ⟨fun i H => ∃ xs x, Sq k K H a xs ∧ xs[i]? = some x,
  fun i H v H' => ∃ T, H T = none ∧ v = .ref T ∧ ∀ xs, Sq k K H a xs → ∃ x, xs[i]? = some x ∧ H' = upd H T (.tup [.int i, x]),
  fun i H => ∃ xs, Sq k K H a xs ∧ xs.length ≤ i⟩
theorem zakm {P : Program} {w : World} {K : PySem.W.Frag} {elts : List Expr} {kk : Nat} {tpos : Pos} {k : SK} {e it a : Addr} (hne : e ≠ it) :
  Turn P w K (.Tuple elts kk tpos) (Itn K k a) [e, it] e (fun i h => (∃ old, IsEnum h e it i old) ∧ SIt k h it a i) where
 mem := by simp
 obj := fun i h st b hb => by
  obtain ⟨⟨old, he⟩, h1⟩ := st
  simp only [List.mem_cons, List.not_mem_nil, or_false] at hb
  rcases hb with rfl | rfl
  ·exact ⟨_, he, fun v q => nomatch q⟩
  ·exact h1.obj
 keep := fun i h h' st k => by
  obtain ⟨⟨old, he⟩, h1⟩ := st
  exact ⟨⟨old, k _ (by simp) _ he⟩, h1.at fun o e => k _ (by simp) o e⟩
 item := by
  intro X hP hw hK hc i pins s σ H E I hf st hg
  subst hP hw hK
  obtain ⟨⟨old, he⟩, h1⟩ := st
  obtain ⟨xs, x, q1, hx⟩ := hg
  obtain ⟨ix, rx, px⟩ := I.sis q1
  obtain ⟨u, hu, ru⟩ := rx.get hx
  refine zaem he h1 px (x := u) (by simpa using hu) hne fun h' a1 a2 a3 a4 a5 => ?_
  refine ⟨_, rfl, wpAny_letOwnedTupleGo_enum (s := { s with heap := h', toks := s.toks + 1 }) a1 fun h'' b1 b2 => ?_⟩
  have elt : e < s.heap.objs.size := Heap.lt_size he
  have ilt : it < s.heap.objs.size := by obtain ⟨o, ho, _⟩ := h1.obj; exact Heap.lt_size ho
  have k2 : ∀ c o, c ∉ [e, it] → s.heap.get? c = some o → h''.get? c = some o := fun c o hc ec => by
   simp only [List.mem_cons, List.not_mem_nil, or_false, not_or] at hc
   exact b2.extBut _ _ hc.1 (a5 c o hc.1 hc.2 ec)
  have hT2 : h''.get? s.heap.objs.size = some { cls := .type "tuple", data := .seq #[.int i s.toks, u] } := b2.extBut _ _ (Nat.ne_of_gt elt) a3
  refine ⟨.ref s.heap.objs.size, upd H s.heap.objs.size (.tup [.int i, x]), I.turnedNew (t' := s.toks + 1) (o := .tup [.int i, x]) k2 hf (Nat.le_refl _)
   ⟨by show 2 ≤ sizeLine; decide, [.int i s.toks, u], .cons ⟨_, rfl⟩ (.cons ru .nil), ⟨_, hT2, rfl, _, rfl⟩⟩, rfl,
   ⟨_, I.hok.fresh (Nat.le_refl _), rfl, fun xs' e1 => ?_⟩, ⟨⟨u, by simpa using b1⟩, a2.at fun o eo => b2.extBut _ _ (Ne.symm hne) eo⟩, fun b hb => ?_⟩
  ·rw [I.sq_inj e1 q1]
   exact ⟨x, hx, rfl⟩
  ·have blt : b < s.heap.objs.size := by
    simp only [List.mem_cons, List.not_mem_nil, or_false] at hb
    rcases hb with rfl | rfl
    ·exact elt
    ·exact ilt
   rw [zaav (Nat.ne_of_lt blt)]
   exact (hf b hb).1
 done := by
  intro X hP hw hK hc i pins s σ H E I hf st hg
  subst hP hw hK
  obtain ⟨⟨old, he⟩, h1⟩ := st
  obtain ⟨xs, q1, hl⟩ := hg
  obtain ⟨ix, rx, px⟩ := I.sis q1
  have l1 := rx.length
  refine zae6 (I.ok.hd hc) he h1 px (by simp; omega) fun h' hk => ⟨rfl, I.turnedL (t' := s.toks) (its := [e, it]) (fun b o hb eb => ?_) hf⟩
  simp only [List.mem_cons, List.not_mem_nil, or_false, not_or] at hb
  exact hk b o hb.2 eb
 self := fun _ _ _ _ _ st h => by
  obtain ⟨⟨old, he⟩, _⟩ := st
  exact wpAny_pyIter_enum he h
section
variable {X : Cx} {elts : List Expr} {kk : Nat} {tpos : Pos}
def iEnum (K : PySem.W.Frag) (k : SK) (ta : TA) : TI := fun σ H R => ta σ H fun vs H1 => ∃ a, vs = [.ref a] ∧ (∃ xs, Sq k K H1 a xs) ∧ R (Itn K k a) H1
theorem zaoc (k : SK) {a : Expr} {ta : TA} {p pos : Pos} (hg : Gl X "enumerate") (hm : X.mg "enumerate" = none) (ha : PA X [a] ta) (hs : starEach [a] X.env = [(false, eval a X.env)] := by rfl) :
  PI X (.Tuple elts kk tpos) (.Call (.Name "enumerate" p) [a] [] pos) (iEnum X.K k ta) := by
 intro pins s σ H R I h
 refine Call_ (zaf3 I hg hm PyProof.Rows.Boot.«enumerate» (PyProof.Rows.callWith_type1 (thn (ha pos pins s σ H _ I h) fun us s1 ⟨vs, H1, I1, r1, q1⟩ => ?_) hs rfl))
 obtain ⟨a', e, ⟨xs, qx⟩, q⟩ := q1
 subst e
 cases r1 with
 | cons r rr =>
  cases rr
  cases r
  obtain ⟨ix, rx, px⟩ := I1.sis qx
  refine zajm px fun h' b1 b2 b3 => wpAny_pyIter_enum (s := { s1 with heap := h' }) b1 ?_
  have nn : ∀ b, s1.heap.objs.size ≤ b → FpOk X pins H1 b := fun b hb => I1.fpOk hb (I1.hok.fresh hb)
  refine ⟨_, [s1.heap.objs.size + 1, s1.heap.objs.size], _, _, H1, rfl, I1.kept (t' := s1.toks) b3, zakm (k := k) (Nat.ne_of_gt (Nat.lt_succ_self _)), ⟨⟨_, b1⟩, b2⟩, fun b hb => ?_, q⟩
  simp only [List.mem_cons, List.not_mem_nil, or_false] at hb
  rcases hb with rfl | rfl
  ·exact nn _ (Nat.le_succ _)
  ·exact nn _ (Nat.le_refl _)
end
theorem zahv {K : PySem.W.Frag} {k : SK} {a : Addr} {xs : List V} {g : TG} {tb : TS} {D : Ends} {σ : St} {H : Hp} (Pv : Nat → St → Hp → Prop) (h0 : Pv 0 σ H)
  (hl : ∀ i σ H, i ≤ xs.length → Pv i σ H → Sq k K H a xs)
  (hs : ∀ i x σ H T, xs[i]? = some x → Pv i σ H → H T = none → g (.ref T) σ (upd H T (.tup [.int i, x])) fun σ2 H2 => tb { D with nx := Pv (i + 1), ct := Pv (i + 1), bk := D.nx } σ2 H2)
  (hd : ∀ σ H, Pv xs.length σ H → D.nx σ H) : Loop (Itn K k a) g tb D σ H := by
 refine ⟨fun i m σ H => m = xs.length - i ∧ i ≤ xs.length ∧ Pv i σ H, ⟨xs.length, by simp, Nat.zero_le _, h0⟩, ?_⟩
 rintro i m σ H ⟨rfl, hi, p⟩
 have q1 := hl i σ H hi p
 by_cases hlt : i < xs.length
 ·refine .inr ⟨⟨xs, xs[i], q1, by simp [hlt]⟩, Pv (i + 1), fun σ' H' p' => ⟨xs.length - (i + 1), by omega, rfl, hlt, p'⟩, fun x H' y => ?_⟩
  obtain ⟨T, hT, rfl, y⟩ := y
  obtain ⟨u, e1, rfl⟩ := y xs q1
  exact hs i u σ H T e1 p hT
 ·have e : i = xs.length := by omega
  refine .inl ⟨⟨xs, q1, by omega⟩, ?_⟩
  subst e
  exact hd σ H p
theorem zaiy {K : PySem.W.Frag} {k1 k2 : SK} {a b : Addr} (xs zs : List V) {g : TG} {tt : TT} {te : TE} {Q : List V → Hp → Prop} {σ : St} {H : Hp} (Pv : Nat → List V → St → Hp → Prop) (hn : xs.length < sizeLine) (hz : xs.length = zs.length) (h0 : Pv 0 [] σ H) (hl : ∀ i ys σ H, i ≤ xs.length → Pv i ys σ H → ys.length ≤ i ∧ Sq k1 K H a xs ∧ Sq k2 K H b zs)
  (turn : ∀ i ys σ H x z T, xs[i]? = some x → zs[i]? = some z → Pv i ys σ H → H T = none → g (.ref T) σ (upd H T (.tup [x, z])) fun σ2 H2 => tt σ2 H2 fun b H3 => if b = true then te σ2 H3 fun y H4 => Pv (i + 1) (ys ++ [y]) σ2 H4 else Pv (i + 1) ys σ2 H3)
  (after : ∀ ys σ H, Pv xs.length ys σ H → Q ys H) : Comp (Itz K k1 k2 a b) g tt te Q σ H :=
 zaid xs.length Pv h0 (fun i ys σ H hi p => Nat.lt_of_le_of_lt (Nat.le_trans (hl i ys σ H hi p).1 hi) hn)
  (fun i ys σ H hi p => ⟨xs, zs, xs[i], zs[i]'(hz ▸ hi), (hl i ys σ H (Nat.le_of_lt hi) p).2.1, (hl i ys σ H (Nat.le_of_lt hi) p).2.2, List.getElem?_eq_getElem hi, List.getElem?_eq_getElem (hz ▸ hi)⟩)
  (fun ys σ H p => ⟨xs, zs, (hl _ ys σ H (Nat.le_refl _) p).2.1, (hl _ ys σ H (Nat.le_refl _) p).2.2, .inl (Nat.le_refl _)⟩) (fun i ys σ H hi p x H' y => by
   obtain ⟨T, hT, rfl, y⟩ := y
   obtain ⟨u, v, e1, e2, rfl⟩ := y xs zs (hl i ys σ _ (Nat.le_of_lt hi) p).2.1 (hl i ys σ _ (Nat.le_of_lt hi) p).2.2
   exact turn i ys σ _ u v T e1 e2 p hT) after
end L2

namespace L2
open PySem PySem.Spec PyProof.Rows
section
variable {prog : Program} {w : World} {A : Around} {E : Value → Shared → Prop} {s : Shared}
end
section
variable {prog : Program} {w : World} {K : Type} [DecidableEq K] {knd : KeyKind prog w K} {A : Around} {R : Result → Shared → Prop}
end
section
variable {prog : Program} {w : World} {K : Type} [DecidableEq K] {knd : KeyKind prog w K} {A : Around} {E : Value → Shared → Prop} {s : Shared}
end
end L2

namespace L2
open PySem PySem.Spec PyProof.Rows
abbrev IsZipK (h : Heap) (z TI TO : Addr) (T : Addr) (f1 : Bool) : Prop :=
 h.get? z = some { cls := .type "zip", dict := none, data := .fields #[rawInt T, .bool f1, .bool false, .ref TI, .ref TO], slots := #[] }
section
variable {prog : Program} {w : World} {A : Around} {E : Value → Shared → Prop} {s : Shared}
end
def PairsAt (h : Heap) (us : List Value) (xs ys : List Value) : Prop := us.length ≤ xs.length ∧ us.length ≤ ys.length ∧ ∀ (j : Nat) (u : Value), us[j]? = some u → ∃ (t : Addr) (x y : Value), u = .ref t ∧ xs[j]? = some x ∧ ys[j]? = some y ∧ IsPair h t x y
section
variable {prog : Program} {w : World} {A : Around} {R : Result → Shared → Prop}
end
section
variable {prog : Program} {w : World} {A : Around} {E : Value → Shared → Prop} {s : Shared}
end
end L2

namespace L2
open PySem PySem.Spec PyProof.Rows
section
variable {X : Cx} {pins : List (Addr × Obj)} {σ : List (Option V)} {H H' : Hp} {s : Shared} {h' : Heap}
end
theorem ObjOk.has {P : Program} {w : World} {H : Hp} {h : Heap} {a : Addr} : ∀ {o : HO}, ObjOk P w H h a o → ∃ ob, h.get? a = some ob
 | .lst _, ⟨_, _, _, _, e⟩ => ⟨_, e⟩
 | .tup _, ⟨_, _, _, o, e, _⟩ => ⟨o, e⟩
 | .dK _, ⟨_, _, _, _, o, _, _, e, _⟩ => ⟨o, e⟩
 | .dT _, ⟨_, _, _, _, o, _, _, e, _⟩ => ⟨o, e⟩
 | .set _ _, ⟨o, _, _, _, e, _⟩ => ⟨o, e⟩
 | .ins _ _ _, ⟨_, _, _, e, _⟩ => ⟨_, e⟩
 | .own _, x => x
 | .xd _, ⟨_, ⟨o, _, _, e, _⟩, _⟩ => ⟨o, e⟩
 | .rng _ _, ⟨_, _, _, e⟩ => ⟨_, e⟩
 | .frz _ _, ⟨e, _⟩ => ⟨_, e⟩
 | .tbl _, e => ⟨_, e⟩
 | .met _ _, e => ⟨_, e⟩
 | .ext _, ⟨_, e, _⟩ => e
theorem HOk.has {P : Program} {w : World} {H : Hp} {h : Heap} {a : Addr} {o : HO} (x : HOk P w H h) (e : H a = some o) : ∃ ob, h.get? a = some ob := (x a o e).has
section
variable {X : Cx}
def tLZ (K : PySem.W.Frag) (k1 k2 : SK) (ta : TA) : TE := fun σ H Q => ta σ H fun vs H1 => ∃ a b xs ys, vs = [.ref a, .ref b] ∧ Sq k1 K H1 a xs ∧ Sq k2 K H1 b ys ∧ xs.length = ys.length ∧ xs.length ≤ sizeLine ∧
 ∀ (p : Addr) (ts : List Addr) (H' : Hp), Ch [] H1 H' → H1 p = none → H' p = some (.lst (ts.map V.ref)) → ts.length = xs.length →
  (∀ (i : Nat) (t : Addr) (x y : V), ts[i]? = some t → xs[i]? = some x → ys[i]? = some y → H' t = some (.tup [x, y])) → Q (.ref p) H'
def adr : Value → Addr
 | .ref a => a
 | _ => 0
theorem zaie {prog : Program} {w : World} {A : Around} {bs : List Bool} : TruthOf prog w A (fun i v => (bs.map fun b => Value.bool b).toArray[i]? = some v) (fun i => bs.getD i false) := by
 intro i v s Q E hP hQ
 have hP' : (bs.map fun b => Value.bool b)[i]? = some v := by simpa using hP
 rw [List.getElem?_map] at hP'
 cases e : bs[i]? with
 | none => rw [e] at hP'; cases hP'
 | some b =>
  rw [e] at hP'
  cases hP'
  have : bs.getD i false = b := by rw [List.getD_eq_getElem?_getD, e]; rfl
  have hQ : Q (bs.getD i false) s := hQ
  rw [this] at hQ
  exact wpAny_pure hQ
theorem zakn (bs : List Bool) : ((List.range bs.length).all fun i => bs.getD i false) = bs.all id := by
 rw [Bool.eq_iff_iff, List.all_eq_true, List.all_eq_true]
 constructor
 ·intro h b hb
  obtain ⟨i, hi, rfl⟩ := List.mem_iff_getElem.mp hb
  have := h i (List.mem_range.mpr hi)
  rw [List.getD_eq_getElem?_getD, List.getElem?_eq_getElem hi] at this
  exact this
 ·intro h i hi
  have hi := List.mem_range.mp hi
  rw [List.getD_eq_getElem?_getD, List.getElem?_eq_getElem hi]
  exact h _ (List.getElem_mem hi)
theorem zagb : ∀ {bs : List Bool} {its : List Value}, Vals (bs.map V.bl) its → its = bs.map fun b => Value.bool b
 | [], _, .nil => rfl
 | b :: bs, _, .cons r t => by rw [List.map_cons, zagb t]; cases r; rfl
theorem zadw (hc : X.calm = true) : CallR X (.builtin "all") (fun xs H Q => ∃ (p : Addr) (bs : List Bool), xs = [.ref p] ∧ H p = some (.lst (bs.map V.bl)) ∧ Q (.bl (bs.all id)) H) := by
 intro pins s σ H xs us Q I r h
 obtain ⟨p, bs, rfl, hp, q⟩ := h
 obtain ⟨u, rfl, ru⟩ := vals1 r
 cases ru
 obtain ⟨z, its, n, rv, e⟩ := I.hok p _ hp
 have ei := zagb rv
 subst ei
 have hl : s.heap.IsList p (bs.map fun b => Value.bool b).toArray := ⟨_, e, rfl, n, rfl⟩
 refine call_all_walk (wpAny_pyIter_list hl ?_)
 have hne : p ≠ s.heap.objs.size := Nat.ne_of_lt (Heap.lt_size e)
 refine ⟨s.heap.objs.size, _, _, _, _, _, _, rfl, Walks.list (by first | exact I.ok.hd hc | (show X.A.in1.handled = none; exact I.ok.hd hc)) s.heap.objs.size p hne (bs.map fun b => Value.bool b).toArray,
  ⟨⟨_, Heap.get?_push_size _ rfl, rfl, rfl⟩, ⟨_, Heap.get?_push_of_some _ e, rfl, n, rfl⟩⟩, zaie, fun h' tk hk => ?_⟩
 have sz : (bs.map fun b => Value.bool b).toArray.size = bs.length := by simp
 rw [sz, zakn]
 exact ⟨.bl (bs.all id), H, I.kept (t' := tk) fun b o eb => hk b o (by simp; exact Nat.ne_of_lt (Heap.lt_size eb)) (Heap.get?_push_of_some _ eb), rfl, q⟩
end
end L2

namespace L2
open PySem PySem.Spec PyProof.Rows
section
variable {X : Cx} {pins : List (Addr × Obj)} {σ : St} {H : Hp} {s : Shared} {A : Around} {E : Value → Shared → Prop} {Q : Value → Shared → Prop} {b : Bool}
theorem zajo {x : V} {u t : Value} {tp : Addr} {its : List Value} {o : Obj} {n : Nat} (I : Inv X pins σ H s) (rx : RelV x u) (ty : TyOf X.K H x t) (ho : s.heap.get? tp = some o) (hoc : o.cls = .type "tuple") (hod : o.data = .seq its.toArray n)
  (e : PySem.W.kitAny X.K t its = some b) (h : ∀ tk, Q (.bool b) { s with toks := tk }) :
  wpAny (model X.prog X.w) A (call (.builtin "isinstance") [u, .ref tp]) Q E s := by
 obtain ⟨c0, d0, t0, l0⟩ := o
 replace hoc : c0 = .type "tuple" := hoc
 replace hod : t0 = .seq its.toArray n := hod
 subst hoc hod
 cases ty with
 | non => cases (show u = Value.none from rx); exact PySem.W.kia_tup PySem.W.kitx_none I.kIn True.intro ho e (fun z => nomatch z) h
 | bl y => cases (show u = Value.bool y from rx); exact PySem.W.kia_tup PySem.W.kitx_bool I.kIn True.intro ho e (fun z => nomatch z) h
 | int i => obtain ⟨t, q⟩ := (show ∃ t, u = Value.int i t from rx); cases q; exact PySem.W.kia_tup PySem.W.kitx_int I.kIn True.intro ho e (fun z => nomatch z) h
 | str y => obtain ⟨t, q⟩ := (show ∃ t, u = Value.str y t from rx); cases q; exact PySem.W.kia_tup PySem.W.kitx_str I.kIn True.intro ho e (fun z => nomatch z) h
 | flt y => obtain ⟨t, q⟩ := (show ∃ t, u = Value.float y t from rx); cases q; exact PySem.W.kia_tup PySem.W.kitx_float I.kIn True.intro ho e (fun z => nomatch z) h
 | @lst a xs ea =>
  cases (show u = Value.ref a from rx)
  obtain ⟨_, _, n, _, h1⟩ := (show ObjOk X.prog X.w H s.heap a (.lst xs) from I.hok a _ ea)
  exact PySem.W.kia_tup PySem.W.kitx_list I.kIn ⟨_, h1, rfl⟩ ho e (fun z => nomatch z) h
 | @frz a ob xs ea =>
  cases (show u = Value.ref a from rx)
  obtain ⟨_, _, _, n, _, h1⟩ := (show ObjOk X.prog X.w H s.heap a (.frz ob (.lst xs)) from I.hok a _ ea)
  exact PySem.W.kia_tup PySem.W.kitx_list I.kIn ⟨_, h1, rfl⟩ ho e (fun z => nomatch z) h
 | @tup a xs ea =>
  cases (show u = Value.ref a from rx)
  obtain ⟨_, _, _, p⟩ := (show ObjOk X.prog X.w H s.heap a (.tup xs) from I.hok a _ ea)
  obtain ⟨o, h1, h2, _⟩ := p
  exact PySem.W.kia_tup PySem.W.kitx_tuple I.kIn ⟨o, h1, h2⟩ ho e (fun z => nomatch z) h
 | @dK a kvs ea =>
  cases (show u = Value.ref a from rx)
  obtain ⟨_, _, vs, _, p⟩ := (show ObjOk X.prog X.w H s.heap a (.dK kvs) from I.hok a _ ea)
  obtain ⟨o, es, ep, h1, h2, _⟩ := p
  exact PySem.W.kia_tup PySem.W.kitx_dict I.kIn ⟨o, h1, h2.1⟩ ho e (fun z => nomatch z) h
 | @dT a kvs ea =>
  cases (show u = Value.ref a from rx)
  obtain ⟨_, _, xs, _, o, es, ep, h1, h2, _⟩ := (show ObjOk X.prog X.w H s.heap a (.dT kvs) from I.hok a _ ea)
  exact PySem.W.kia_tup PySem.W.kitx_dict I.kIn ⟨o, h1, h2.1⟩ ho e (fun z => nomatch z) h
 | @ins a C dx fs ea cl ha hn htk hm =>
  cases (show u = Value.ref a from rx)
  obtain ⟨mA, O, _⟩ := zagm I.hok ea
  obtain ⟨od, J, _⟩ := O.look
  exact PySem.W.kia_tup (PySem.W.kitx_own (cl.get _) cl.hd ha hn htk hm) I.kIn J ho e (fun z => nomatch z) h
end
def rIsTs (K : PySem.W.Frag) : List V → Hp → VK → Prop := fun xs H Q => ∃ (x : V) (p : Addr) (Ts : List String) (t : Value) (b : Bool), xs = [x, .ref p] ∧ H p = some (.tup (Ts.map V.ty)) ∧ TyOf K H x t ∧ PySem.W.kitAny K t (Ts.map Value.type) = some b ∧ Q (.bl b) H
theorem zaiz : ∀ {Ts : List String} {us : List Value}, Vals (Ts.map V.ty) us → us = Ts.map Value.type
 | [], _, .nil => rfl
 | T :: Ts, _, .cons r t => by rw [List.map_cons, zaiz t]; cases r; rfl
theorem zako {X : Cx} : CallR X (.builtin "isinstance") (rIsTs X.K) := by
 intro pins s σ H xs us Q I r h
 obtain ⟨x, p, Ts, t, b, rfl, hp, ty, e, q⟩ := h
 obtain ⟨u, v, rfl, ru, rv⟩ := vals2 r
 cases rv
 obtain ⟨_, its, rt, o, ho, hoc, n, hod⟩ := I.hok p _ hp
 have := zaiz rt
 subst this
 exact zajo I ru ty ho hoc hod e fun tk => ⟨.bl b, H, I.tok _, rfl, q⟩
example (K : PySem.W.Frag) : PySem.W.kitAny K (.type "list") [.type "list", .type "tuple"] = some true := rfl
example (K : PySem.W.Frag) : PySem.W.kitAny K (.type "tuple") [.type "list", .type "tuple"] = some true := rfl
example (K : PySem.W.Frag) : PySem.W.kitAny K (.type "int") [.type "list", .type "tuple"] = some false := rfl
end L2

namespace L2
open PySem PySem.Spec PyProof.Rows
structure MethOk (P : Program) (w : World) (K : PySem.W.Frag) (mg : Str → Option Value) (base : Heap) (CX : CXT) (k : Nat) (C : Addr) (m : Str) (ps : List Str) (sp : Sp) : Prop where
 cl : Cls K C
 ex : ∃ (f : Addr) (fd : FuncData), FnOk P w K mg base CX k f fd ps sp ∧ Binds K fd ps [] ∧ Meth K C m f
structure MakeOk (P : Program) (w : World) (K : PySem.W.Frag) (mg : Str → Option Value) (base : Heap) (CX : CXT) (k : Nat) (C : Addr) (x : Str) (ps : List Str) (sp : Sp) : Prop where
 ex : ∃ (f : Addr) (fd : FuncData), FnOk P w K mg base CX k f fd ps sp ∧ Binds K fd ps [] ∧ Mk K C f ∧ mg x = some (.ref C)
theorem MakeOk.mono {P : Program} {w : World} {K : PySem.W.Frag} {mg : Str → Option Value} {base : Heap} {CX : CXT} {j k : Nat} {C : Addr} {x : Str} {ps : List Str} {sp : Sp} (D : MakeOk P w K mg base CX j C x ps sp) (h : j ≤ k) : MakeOk P w K mg base CX k C x ps sp := by
 obtain ⟨f, fd, F, b⟩ := D.ex
 exact ⟨f, fd, F.mono h, b⟩
section
variable {X : Cx} {CX : CXT} {k : Nat} {C : Addr} {ps : List Str} {sp : Sp} {E : XK} {x m : Str} {p pos apos : Pos} {e o : Expr} {es : List Expr} {ta : TE} {t : TA}
theorem zadj (D : MakeOk X.prog X.w X.K X.mg X.base CX k C x ps sp) (hr : Room (k + 1) X.A) (hg : Gl X x) (hx : Passes CX X E)
  (ha : Pr (PA X (e :: es) t)) (hdb : (x == ("__debug__" : Str)) = false := by decide) (he : starEach (e :: es) X.env = (false, eval e X.env) :: starEach es X.env := by rfl) (hpl : (backTo pos (starEach es X.env)).any (·.1) = false := by rfl) :
  Pr (PE X (.Call (.Name x p) (e :: es) [] pos) (tMake C sp [] E t)) := by
 obtain ⟨f, fd, F, b, M, hm⟩ := D.ex
 exact ⟨zans M F hr hg hm b .nil hx ha.h hdb he hpl⟩
end
section
variable {X : Cx} {sc : Scope} {own : List Str} {fr : List Nat} {N' : List Str} {tg elt iter : Expr} {ifs : List Expr} {g : TG} {tt : TT} {te : TE} {wi : TI} {pos : Pos}
theorem zab4 : Pr (PIf X [] tYes) := ⟨zan8⟩
theorem zafb {c : Expr} {t : TT} (h : Pr (PT X c t)) : Pr (PIf X [c] t) := ⟨zan9 h.h⟩
theorem zacb (hc : X.calm = true) (cs : CompOk sc X.env.scope own X.N fr N') (hi : Pr (PI X tg iter wi)) (hg : ∀ cl C s H fp, Pr (PG (cxC X sc cl N' C s H fp) tg g)) (hif : ∀ cl C s H fp, Pr (PIf (cxC X sc cl N' C s H fp) ifs tt))
  (he : ∀ cl C s H fp, Pr (PE (cxC X sc cl N' C s H fp) elt te)) (hs : ∀ x, foldedSetIterable iter X.env x = pure x := by intro _; rfl) : Pr (PE X (.ListComp elt [⟨tg, iter, ifs, 0⟩] sc pos) (tComp own.length fr wi g tt te)) :=
 ⟨zaoa hc cs hi.h (fun a b c d e => (hg a b c d e).h) (fun a b c d e => (hif a b c d e).h) (fun a b c d e => (he a b c d e).h) hs⟩
theorem zadx {i : Nat} {y : Str} {py spos : Pos} (hN : X.N.Nodup) (hy : X.N[i]? = some y) (hx : Loc X.env.scope y) (hc : X.calm = true) (cs : CompOk sc X.env.scope own X.N fr N') (hi : Pr (PI X tg iter wi))
  (hg : ∀ cl C s H fp, Pr (PG (cxC X sc cl N' C s H fp) tg g)) (hif : ∀ cl C s H fp, Pr (PIf (cxC X sc cl N' C s H fp) ifs tt)) (he : ∀ cl C s H fp, Pr (PE (cxC X sc cl N' C s H fp) elt te))
  (hsw : swapsWith (.ListComp elt [⟨tg, iter, ifs, 0⟩] sc pos) (some (.Name y py)) spos.line X.env = pure true) (hfn : X.fn y = true ∨ X.env.scope.names.lookup y = some .local := by first | exact .inl rfl | exact .inr rfl | assumption) (hs : ∀ x, foldedSetIterable iter X.env x = pure x := by intro _; rfl) :
  Pr (PS X (.Assign [.Name y py] (.ListComp elt [⟨tg, iter, ifs, 0⟩] sc pos) spos) (tSetC i own.length fr wi g tt te)) :=
 ⟨zaob hN hy hx hc cs hi.h (fun a b c d e => (hg a b c d e).h) (fun a b c d e => (hif a b c d e).h) (fun a b c d e => (he a b c d e).h) hsw hfn hs⟩
theorem zai0 (k : SK) {elts : List Expr} {kk : Nat} {tpos : Pos} {a : Expr} {ta : TA} {p pos : Pos} (hg : Gl X "enumerate") (hm : X.mg "enumerate" = none) (ha : Pr (PA X [a] ta)) (hs : starEach [a] X.env = [(false, eval a X.env)] := by rfl) :
  Pr (PI X (.Tuple elts kk tpos) (.Call (.Name "enumerate" p) [a] [] pos) (iEnum X.K k ta)) := ⟨zaoc k hg hm ha.h hs⟩
theorem zal3 : Pr (PPs X pos [] [] []) := ⟨zan0⟩
theorem zafn {k v : Expr} {ks : List (Option Expr)} {vs : List Expr} {tk tv : TE} {trs : List (TE × TE)} (hk : Pr (PE X k tk)) (hv : Pr (PE X v tv)) (hr : Pr (PPs X pos ks vs trs)) : Pr (PPs X pos (some k :: ks) (v :: vs) ((tk, tv) :: trs)) := ⟨zalx hk.h hv.h hr.h⟩
theorem zal4 {keys : List (Option Expr)} {values : List Expr} {trs : List (TE × TE)} (h : Pr (PPs X pos keys values trs)) (hall : keys.all (·.isSome) = true) (hl : keys.length = values.length) (h0 : keys ≠ [])
  (h15 : keys.length ≤ 15) : Pr (PE X (.Dict keys values pos) (tDisp trs)) := ⟨zan1 h.h hall hl h0 h15⟩
theorem zaco : Pr (PE X (.Dict [] [] pos) tDNewK) := ⟨zalw⟩
theorem zacp {o e f : Expr} {td ty tx : TE} {apos cpos : Pos} (hu : X.A.units + 1 < cLine) (ho : Pr (PE X o td)) (he : Pr (PE X e ty)) (hf : Pr (PE X f tx)) (m : M2 X o "get" apos e f cpos) : Pr (PE X (.Call (.Attribute o "get" apos) [e, f] [] cpos) (tDGet2 td ty tx)) := ⟨zaly hu ho.h he.h hf.h m⟩
theorem compOk {sc outer : Scope} {own N : List Str} {fr : List Nat} {N' : List Str} (h1 : sc.kind = .function) (h2 : ∀ y ∈ sc.names, y.2 ≠ .cell) (h3 : ∀ y ∈ sc.names, y.2 = .local → sc.names.lookup y.1 = some .local)
  (h4 : ∀ y ∈ sc.names, y.2 = .free → outer.names.lookup y.1 = some .cell ∨ outer.names.lookup y.1 = some .free) (h5 : N'.Nodup) (h6 : N'.map some = own.map some ++ fr.map fun j => N[j]?)
  (h7 : ∀ x ∈ fr.filterMap (fun j => N[j]?), sc.names.lookup x = some .free ∧ (outer.names.lookup x = some .cell ∨ outer.names.lookup x = some .free)) : CompOk sc outer own N fr N' :=
 ⟨h1, h2, h3, h4, h5, h6, fun j hj x hx => h7 x (List.mem_filterMap.mpr ⟨j, hj, hx⟩)⟩
end
def rIsT2 (K : PySem.W.Frag) : List V → Hp → VK → Prop := fun xs H Q => ∃ (x : V) (p : Addr) (T1 T2 : String) (t : Value) (b : Bool), xs = [x, .ref p] ∧ H p = some (.tup [.ty T1, .ty T2]) ∧ TyOf K H x t ∧ PySem.W.kitAny K t [.type T1, .type T2] = some b ∧ Q (.bl b) H
theorem zahw {X : Cx} : CallR X (.builtin "isinstance") (rIsT2 X.K) := fun pins s σ H xs us Q I r h => by
 obtain ⟨x, p, T1, T2, t, b, e, hp, ty, k, q⟩ := h
 exact zako pins s σ H xs us Q I r ⟨x, p, [T1, T2], t, b, e, hp, ty, k, q⟩
theorem iteNn {c : Prop} [Decidable c] {A B : Prop} (hc : c) (h : B) : if (!decide c) = true then A else B := by rw [if_neg (by simp [hc])]; exact h
def Tu (H H' : Hp) : Prop := ∀ b xs, H b = some (.tup xs) → H' b = some (.tup xs)
theorem Tu.refl (H : Hp) : Tu H H := fun _ _ h => h
theorem Tu.trans {H H1 H2 : Hp} (a : Tu H H1) (b : Tu H1 H2) : Tu H H2 := fun c xs h => b c xs (a c xs h)
theorem Tu.same {H H' : Hp} (c : Ch [] H H') : Tu H H' := fun b xs h => c b _ h (by simp)
theorem Tu.ch {H H' : Hp} {b : Addr} {o : HO} (c : Ch [b] H H') (hb : H b = some o) (ho : ∀ xs, o ≠ .tup xs) : Tu H H' := fun d xs h => c d _ h (by
 intro z
 have e : d = b := by simpa using z
 subst e
 rw [hb] at h
 exact ho xs (Option.some.inj h))
theorem Tu.lst {H H' : Hp} {b : Addr} {ys : List V} (c : Ch [b] H H') (hb : H b = some (.lst ys)) : Tu H H' := Tu.ch c hb (fun xs z => by cases z)
theorem Tu.new {H : Hp} {p : Addr} (o : HO) (h : H p = none) : Tu H (upd H p o) := Tu.same (Ch.new h o)
end L2

namespace L2
open PySem PySem.Spec PyProof.Rows
section
variable {X : Cx} {a b o e value : Expr} {es : List Expr} {f : Str} {ta tb te : TE} {pos : Pos} {tg l : Expr}
theorem zaeb (K : PySem.W.Frag) (hK : X.K = K) : IxR X (aIxL K) := hK ▸ zaaz
theorem zafc (K : PySem.W.Frag) (hK : X.K = K) : IxR X (aIxT K) := hK ▸ zaat
theorem zags (K : PySem.W.Frag) (hK : X.K = K) : CallR X (.builtin "len") (fun xs H Q => ∃ p ys, xs = [.ref p] ∧ (SqL K H p ys ∨ SqT K H p ys) ∧ Q (.int ys.length) H) := hK ▸ zaay
theorem zaen (K : PySem.W.Frag) (hK : X.K = K) : OpR X (compareOp .In) (rIn K false) := hK ▸ zac1
theorem zahx (K : PySem.W.Frag) (hK : X.K = K) : CallR X (.builtin "isinstance") (rIsT K) := hK ▸ zaa3
theorem zal5 (K : PySem.W.Frag) (hK : X.K = K) (he : Pr (PE X e ta)) (hb : attributeBase e f X.env (eval e X.env) = eval e X.env) : Pr (PE X (.Attribute e f pos) (tFld K ta f)) := hK ▸ ⟨zamu he.h hb⟩
theorem zakp (K : PySem.W.Frag) (hK : X.K = K) {tl : TE} (hl : Pr (PE X l tl)) : Pr (PI X tg l (iList K tl)) := hK ▸ ⟨zajx hl.h⟩
theorem zal6 (K : PySem.W.Frag) (hK : X.K = K) {tl : TE} (hl : Pr (PE X l tl)) : Pr (PI X tg l (iTup K tl)) := hK ▸ ⟨zamr hl.h⟩
theorem zady (K : PySem.W.Frag) (n : Nat) (hK : X.K = K) {k : Nat} {t : TGs} (hc : X.calm = true) (h : Pr (PGs X es t)) (hn : (assignEach es X.env).length = n := by rfl) (hst : (assignEach es X.env).findIdx? (·.1) = none := by rfl) :
  Pr (PG X (.Tuple es k pos) (gTup K n t)) := hK ▸ ⟨zamq hc h.h hn hst⟩
end
end L2

namespace L2
open PySem PySem.Spec PyProof.Rows
theorem zakq (f : Array Value → Array Value) (o : Obj) : (o.mapFields f).dict = o.dict := by
 obtain ⟨_, _, d, _⟩ := o
 cases d <;> rfl
structure Fl (h : Heap) (e C : Addr) (dx : Option Addr) (T : Addr) (fl : Value) : Prop where
 ob : ∃ oe vs, h.get? e = some oe ∧ (oe.cls = .ref C ∧ oe.dict = dx) ∧ oe.data = .fields vs ∧ vs[1]? = some (.ref T) ∧ vs[2]? = some .none
 tb : ∃ oT ts, h.get? T = some oT ∧ oT.data = .fields ts ∧ ts[3]? = some fl
 ne : T ≠ e
def KB (ex fs : List Addr) (h h' : Heap) : Prop := ∀ b o, h.get? b = some o → b ∉ ex → (b ∉ fs → h'.get? b = some o) ∧ ∃ sl, h'.get? b = some { o with slots := sl }
theorem KB.trans {ex ex' fs : List Addr} {h h1 h2 : Heap} (a : KB ex fs h h1) (b : KB ex' fs h1 h2) : KB (ex ++ ex') fs h h2 := fun c o e n => by
 simp only [List.mem_append, not_or] at n
 obtain ⟨k1, sl, k2⟩ := a c o e n.1
 refine ⟨fun hf => (b c o (k1 hf) n.2).1 hf, ?_⟩
 obtain ⟨_, sl', k3⟩ := b c _ k2 n.2
 exact ⟨sl', k3⟩
section
variable {M : Model} {A : Around} {E : Value → Shared → Prop} {s : Shared} {base : Heap} {env : Env} {outer : List Env} {L e C T : Addr} {dx : Option Addr} {Q : Unit → Shared → Prop}
theorem zai1 {oe : Obj} {vs : Array Value} {head : Value} {hn : Bool} (hfr : A.frames = some (env :: outer)) (hl : s.heap.FunFrames base (env :: outer)) (hf : env.frame = some L)
  (ge : s.heap.get? e = some oe) (gc : oe.cls = .ref C ∧ oe.dict = dx) (gd : oe.data = .fields vs) (g1 : 1 < vs.size) (g2 : vs[2]? = some .none)
  (k : ∀ h' T, KB [e] (frs (env :: outer)) s.heap h' → Fl h' e C dx T (rawInt L) → s.heap.get? T = none → Q () { s with heap := h' }) :
  wpAny M A (do
   let fo ← frameOf env
   let pl ← entryPlaceOf L hn
   let en ← EntryCells.newEntry head fo .none (rawInt L) .none pl
   setField (.ref e) 1 en) Q E s := by
 have nf : e ∉ frs (env :: outer) := fun z => by
  obtain ⟨_, o, ho, no⟩ := hl.mem z
  rw [ge] at ho
  cases ho
  exact no vs gd
 refine wpAny_bind (wpAny_frameOf_fun hfr hl hf fun ha so => ?_)
 refine wpAny_bind (wpAny_entryPlaceOf fun pl ip => ?_)
 unfold EntryCells.newEntry newFields
 refine wpAny_bind (wpAny_newObj_type ?_ (ip.sizeOk5 _ _ _ _ _))
 have ea : ha.get? e = some oe := by rw [so.2.1 e nf]; exact ge
 have neT : ha.objs.size ≠ e := Nat.ne_of_gt (Heap.lt_size ea)
 refine wpAny_setField (Heap.get?_push_of_some _ ea) gd g1 (k _ ha.objs.size (fun b o hb hbe => ?_) ⟨⟨_, _, Heap.get?_update_self _ (Heap.get?_push_of_some _ ea) (Obj.isFreed_of_fields (Obj.data_mapFields gd _)), ?_, Obj.data_mapFields gd _, ?_, ?_⟩, ?_, neT⟩ ?_)
 ·have n1 : e ≠ b := fun z => hbe (by simp [z])
  obtain ⟨sl, q⟩ := so.2.2 b o hb
  refine ⟨fun nb => ?_, sl, ?_⟩
  ·rw [Heap.get?_update_other _ _ n1]
   refine Heap.get?_push_of_some _ ?_
   rw [so.2.1 b nb]
   exact hb
  ·rw [Heap.get?_update_other _ _ n1]
   exact Heap.get?_push_of_some _ q
 ·rw [Obj.cls_mapFields, zakq]; exact gc
 ·simp [g1]
 ·rw [Array.getElem?_setIfInBounds_ne (by decide)]; exact g2
 ·have q := (Heap.get?_update_other (ha.push { cls := .type "traceback", dict := none, data := .fields ([head, .ref L, .none, rawInt L, .none] ++ (if pl.isEmpty then List.replicate 6 Value.none else pl)).toArray }) (Obj.mapFields (·.setIfInBounds 1 (Value.ref ha.objs.size))) (Ne.symm neT)).trans (Heap.get?_push_size ha rfl)
  refine ⟨_, _, q, rfl, ?_⟩
  rcases ip with rfl | ⟨_, _, _, _, _, _, _, rfl⟩ <;> simp
 ·exact Heap.get?_none_of_le (by rw [so.1]; exact Nat.le_refl _)
theorem zagt {fl : Value} (f : Fl s.heap e C dx T fl) (k : ∀ h', KB [T] [] s.heap h' → Fl h' e C dx T .none → Q () { s with heap := h' }) : wpAny M A (setFlight (.ref e) none) Q E s := by
 obtain ⟨⟨oe, vs, a1, a2, a3, a4, a5⟩, ⟨oT, ts, b1, b2, b3⟩, nT⟩ := f
 have sz : 3 < ts.size := (Array.getElem?_eq_some_iff.mp b3).1
 unfold setFlight
 refine wpAny_bind (wpAny_field a1 a3 a4 ?_)
 rw [if_pos (by simp : (Value.ref T != Value.none) = true)]
 refine wpAny_setField b1 b2 sz (k _ (fun b o hb nb => ?_) ⟨⟨oe, vs, ?_, a2, a3, a4, a5⟩, ⟨_, _, Heap.get?_update_self _ b1 (Obj.isFreed_of_fields (Obj.data_mapFields b2 _)), Obj.data_mapFields b2 _, ?_⟩, nT⟩)
 ·have n1 : T ≠ b := fun z => nb (by simp [z])
  rw [Heap.get?_update_other _ _ n1]
  exact ⟨fun _ => hb, o.slots, hb⟩
 ·rw [Heap.get?_update_other _ _ nT]
  exact a1
 ·simp [sz]
theorem zal7 {oe : Obj} {vs : Array Value} (hfr : A.frames = some (env :: outer)) (hl : s.heap.FunFrames base (env :: outer)) (hf : env.frame = some L)
  (ge : s.heap.get? e = some oe) (gc : oe.cls = .ref C ∧ oe.dict = dx) (gd : oe.data = .fields vs) (g1 : vs[1]? = some .none) (g2 : vs[2]? = some .none)
  (k : ∀ h' T, KB [e] (frs (env :: outer)) s.heap h' → Fl h' e C dx T (rawInt L) → s.heap.get? T = none → Q () { s with heap := h' }) : wpAny M A (noteFrame (.ref e) env) Q E s := by
 unfold noteFrame
 simp only [hf]
 refine wpAny_bind (wpAny_field ge gd g1 ?_)
 rw [if_neg (by decide)]
 exact zai1 hfr hl hf ge gc gd (Array.getElem?_eq_some_iff.mp g1).1 g2 k
theorem zakr {T0 : Addr} (hfr : A.frames = some (env :: outer)) (hl : s.heap.FunFrames base (env :: outer)) (hf : env.frame = some L) (f : Fl s.heap e C dx T0 .none)
  (k : ∀ h' T, KB [T0, e] (frs (env :: outer)) s.heap h' → Fl h' e C dx T (rawInt L) → s.heap.get? T = none → Q () { s with heap := h' }) : wpAny M A (noteFrame (.ref e) env) Q E s := by
 obtain ⟨⟨oe, vs, a1, a2, a3, a4, a5⟩, ⟨oT, ts, b1, b2, b3⟩, nT⟩ := f
 unfold noteFrame
 simp only [hf]
 refine wpAny_bind (wpAny_field a1 a3 a4 ?_)
 rw [if_pos (by simp : (Value.ref T0 != Value.none) = true)]
 refine wpAny_bind (wpAny_field b1 b2 b3 ?_)
 rw [if_neg (by simp [rawInt] : ¬ ((Value.none == rawInt L) = true))]
 refine wpAny_bind (wpAny_setField b1 b2 (Array.getElem?_eq_some_iff.mp b3).1 ?_)
 have nfT : ∀ b o, s.heap.get? b = some o → (∀ ws, o.data ≠ .fields ws) → T0 ≠ b := fun b o hb hn z => by
  rw [← z, b1] at hb
  cases hb
  exact hn ts b2
 have same : ∀ b, T0 ≠ b → (s.heap.update T0 (Obj.mapFields (·.setIfInBounds 3 Value.none))).get? b = s.heap.get? b := fun b n => Heap.get?_update_other _ _ n
 have kb : KB [T0] (frs (env :: outer)) s.heap (s.heap.update T0 (Obj.mapFields (·.setIfInBounds 3 Value.none))) := fun b o hb nb => by
  have n1 : T0 ≠ b := fun z => nb (by simp [z])
  rw [same b n1]
  exact ⟨fun _ => hb, o.slots, hb⟩
 refine zai1 hfr (hl.of_keeps fun b o hb hn => ⟨o, by rw [same b (nfT b o hb hn)]; exact hb, rfl⟩) hf (by rw [same e nT]; exact a1) a2 a3 (Array.getElem?_eq_some_iff.mp a4).1 a5 fun h' T kb' f' n' => k h' T (kb.trans kb') f' ?_
 cases q : s.heap.get? T with
 | none => rfl
 | some o =>
  by_cases z : T0 = T
  ·have := Heap.get?_update_self (Obj.mapFields (·.setIfInBounds 3 Value.none)) b1 (Obj.isFreed_of_fields (Obj.data_mapFields b2 _))
   rw [z] at this
   rw [← z] at n'
   rw [z] at n'
   rw [this] at n'
   cases n'
  ·rw [same T z] at n'
   rw [n'] at q
   cases q
end
end L2

namespace L2
open PySem PySem.Spec PyProof.Rows
def CXE (P : Program) (w : World) : CXT := fun outer H s E e s' => ∃ (ea C T : Addr) (dx : Option Addr) (H' : Hp), e = .ref ea ∧ s'.os = s.os ∧ AllBare s'.gens ∧ Un (frs outer) [] H H' s.heap s'.heap ∧ HOk P w H' s'.heap ∧ Fl s'.heap ea C dx T .none ∧
 s.heap.get? ea = none ∧ s.heap.get? T = none ∧ H' ea = none ∧ H' T = none ∧ E (.ref C) dx H'
theorem KB.fs {ex fs : List Addr} {h h' : Heap} (a : KB ex [] h h') : KB ex fs h h' := fun b o e n => ⟨fun _ => (a b o e n).1 (by simp), (a b o e n).2⟩
theorem Un.fly {fs ex xs gs : List Addr} {H H1 : Hp} {h h1 h2 : Heap} (u : Un fs ex H H1 h h1) (kb : KB xs gs h1 h2) (hx : ∀ b ∈ xs, h.get? b = none) (hg : ∀ b ∈ gs, (∃ o, h.get? b = some o) → b ∈ fs) : Un fs ex H H1 h h2 where
 keep := fun b o e n hf hx' => (kb b o (u.keep b o e n hf hx') fun z => by rw [hx b z] at e; cases e).1 fun z => hf (hg b z ⟨o, e⟩)
 slot := fun b o e n hf hx' => by
  obtain ⟨sl, q⟩ := u.slot b o e n hf hx'
  obtain ⟨_, sl', q'⟩ := kb b _ q fun z => by rw [hx b z] at e; cases e
  exact ⟨sl', q'⟩
 free := u.free
 there := fun b o e hx' => by
  obtain ⟨o', q⟩ := u.there b o e hx'
  obtain ⟨_, sl', q'⟩ := kb b _ q fun z => by rw [hx b z] at e; cases e
  exact ⟨_, q'⟩
 tups := u.tups
 frzs := u.frzs
 tbls := u.tbls
theorem HOk.fly {P : Program} {w : World} {H : Hp} {h h' : Heap} {xs gs : List Addr} (x : HOk P w H h) (kb : KB xs gs h h') (hx : ∀ b ∈ xs, H b = none) (hg : ∀ b ∈ gs, H b = none) : HOk P w H h' := fun a o e =>
 (x a o e).stay (fun b u hb q => by
  have t : H b ≠ none := by
   rcases hb with rfl | hb
   ·rw [e]; intro z; cases z
   ·rw [hb]; intro z; cases z
  exact (kb b u q fun z => t (hx b z)).1 fun z => t (hg b z)) (fun _ q => q) fun _ _ q => q
section
variable {X : Cx} {pins : List (Addr × Obj)} {σ : St} {H H' : Hp} {s s' : Shared}
theorem Inv.fly {h' : Heap} {ex : List Addr} (I : Inv X pins σ H s) (kb : KB ex (frs X.stack) s.heap h')
  (hx : ∀ b ∈ ex, X.s₀.heap.get? b = none ∧ H b = none ∧ b ≠ X.env.locals ∧ (∀ x c, X.env.cells.lookup x = some c → c ≠ b) ∧ ∀ p ∈ X.pn ++ pins, p.1 ≠ b) : Inv X pins σ H { s with heap := h' } := by
 have cellK : ∀ x c v, X.env.cells.lookup x = some c → s.heap.IsCell c v → h'.IsCell c v := fun x c v e ⟨o, ho, hd⟩ => by
  obtain ⟨_, sl, q⟩ := kb c o ho fun z => (hx c z).2.2.2.1 x c e rfl
  exact ⟨_, q, hd⟩
 refine ⟨I.ok, I.os, I.bare, I.base.fly kb (fun b z => (hx b z).1) (fun b z ⟨o, e⟩ => ?_), ?_, fun x c e => ?_, I.free, I.freeC, fun p hp => ?_, I.hok.fly kb (fun b z => (hx b z).2.1) I.stkFree, I.len⟩
 ·rcases List.mem_cons.mp (I.stkSub b z) with y | y
  ·rw [y] at e
   exact absurd (Heap.lt_size e) (Nat.not_lt.mpr I.ok.above)
  ·exact y
 ·obtain ⟨m, ⟨o, es, ep, ho, r⟩, l⟩ := I.loc
  obtain ⟨_, sl, q⟩ := kb _ o ho fun z => (hx _ z).2.2.1 rfl
  refine ⟨m, ⟨_, es, ep, q, r⟩, fun i x v h1 h2 h3 => ?_⟩
  obtain ⟨u, ru, lk⟩ := l i x v h1 h2 h3
  refine ⟨u, ru, ?_⟩
  rcases lk with a | ⟨a, c, b1, b2⟩
  ·exact .inl a
  ·exact .inr ⟨a, c, b1, cellK x c _ b1 b2⟩
 ·obtain ⟨v, q⟩ := I.cell x c e
  exact ⟨v, cellK x c v e q⟩
 ·obtain ⟨a, b, c, d, e⟩ := I.pin p hp
  exact ⟨(kb _ _ a fun z => (hx _ z).2.2.2.2 p hp rfl).1 fun z => (List.mem_cons.mp (I.stkSub _ z)).elim c d, b, c, d, e⟩
theorem Inv.alien (I : Inv X pins σ H s) {b : Addr} (n : s.heap.get? b = none) : b ≠ X.env.locals ∧ (∀ x c, X.env.cells.lookup x = some c → c ≠ b) ∧ ∀ p ∈ X.pn ++ pins, p.1 ≠ b := by
 refine ⟨fun z => ?_, fun x c e z => ?_, fun p hp z => ?_⟩
 ·obtain ⟨m, ⟨o, es, ep, ho, r⟩, l⟩ := I.loc
  rw [← z, n] at ho
  cases ho
 ·obtain ⟨v, o, ho, _⟩ := I.cell x c e
  rw [z, n] at ho
  cases ho
 ·have := (I.pin p hp).1
  rw [z, n] at this
  cases this
theorem Inv.alien0 (I : Inv X pins σ H s) (hex : X.ex = []) {b : Addr} (n : s.heap.get? b = none) : X.s₀.heap.get? b = none := by
 cases q : X.s₀.heap.get? b with
 | none => rfl
 | some o =>
  obtain ⟨o', z⟩ := I.base.there b o q (by rw [hex]; simp)
  rw [n] at z
  cases z
theorem HOk.alien {P : Program} {w : World} {H : Hp} {h : Heap} {b : Addr} (x : HOk P w H h) (n : h.get? b = none) : H b = none := by
 cases q : H b with
 | none => rfl
 | some o =>
  obtain ⟨o', z⟩ := x.has q
  rw [n] at z
  cases z
end
section
variable {P : Program} {w : World} {K : PySem.W.Frag} {mg : Str → Option Value} {base : Heap} {N : List Str} {qual : Str} {scope : Scope} {f : Addr} {cd : Value} {A : Around} {outer : List Env} {s₀ : Shared} {H₀ : Hp} {E : XK}
abbrev cxE (P : Program) (w : World) (K : PySem.W.Frag) (mg : Str → Option Value) (base : Heap) (N : List Str) (qual : Str) (scope : Scope) (f : Addr) (cd : Value) (A : Around) (outer : List Env) (s₀ : Shared) (H₀ : Hp) (E : XK) : Cx :=
 cxOf (CXE P w) P w K mg base N qual scope f cd A outer s₀ H₀ E
theorem zam0 {X : Cx} {pins : List (Addr × Obj)} {σ : St} {H : Hp} {s : Shared} (I : Inv X pins σ H s) : ∀ b ∈ frs X.stack, (∃ o, X.s₀.heap.get? b = some o) → b ∈ X.fs := fun b z ⟨o, e⟩ => by
 rcases List.mem_cons.mp (I.stkSub b z) with y | y
 ·rw [y] at e
  exact absurd (Heap.lt_size e) (Nat.not_lt.mpr I.ok.above)
 ·exact y
theorem passE : Passes (CXE P w) (cxE P w K mg base N qual scope f cd A outer s₀ H₀ E) E := by
 rintro pins σ H s e s' I ⟨ea, C, T, dx, H', rfl, os, bare, un, hok, fl, n1, n2, t1, t2, q⟩
 have J : Inv (cxE P w K mg base N qual scope f cd A outer s₀ H₀ E) pins σ H' s' := I.call' (ch := []) os un hok bare (fun b z => absurd z (by simp))
 show wpAny (model P w) _ (leaving _ (.ref ea)) _ _ _
 unfold leaving
 refine wpAny_bind (zakr J.ok.frames J.stack rfl fl fun h2 T1 kb fl2 nT => zagt fl2 fun h3 kb3 fl3 => ?_)
 have k3 : KB [T, ea, T1] (frs (envOfC qual scope s₀.heap.objs.size f cd :: outer)) s'.heap h3 := kb.trans kb3.fs
 have n0 : ∀ b ∈ [T, ea, T1], s₀.heap.get? b = none := fun b hb => by
  simp only [List.mem_cons, List.not_mem_nil, or_false] at hb
  rcases hb with rfl | rfl | rfl
  ·exact I.alien0 rfl n2
  ·exact I.alien0 rfl n1
  ·exact J.alien0 rfl nT
 have nH : ∀ b ∈ [T, ea, T1], H' b = none := fun b hb => by
  simp only [List.mem_cons, List.not_mem_nil, or_false] at hb
  rcases hb with rfl | rfl | rfl
  ·exact t2
  ·exact t1
  ·exact J.hok.alien nT
 exact ⟨ea, C, T1, dx, H', rfl, J.os, J.bare, J.base.fly k3 n0 (zam0 J), J.hok.fly k3 nH J.stkFree, fl3, n0 ea (by simp), n0 T1 (by simp), nH ea (by simp), nH T1 (by simp), q⟩
end
end L2

namespace L2
open PySem PySem.Spec PyProof.Rows
abbrev bmV : List Value := [.type "ValueError", .type "Exception", .type "BaseException", .type "object"]
def XC (K : PySem.W.Frag) (C : Addr) : Prop := PySem.W.excIn K C bmV "ValueError.__new__" = true
theorem XC.obj {K : PySem.W.Frag} {h : Heap} {C : Addr} (q : XC K C) (X : K.In h) : ∃ bm N nm qn bs hdct sn sub ab col dd k0 k1 k2 k3 k5 mN,
  h.get? C = some (excClassObj nm qn C N bs bm hdct sn sub ab col dd k0 k1 k2 k3 k5 "ValueError.__new__") ∧ h.Ns N mN ∧ mN "__init__" = none ∧ OwnTail h bmV bm := by
 have q : PySem.W.excIn K C bmV "ValueError.__new__" = true := q
 unfold PySem.W.excIn at q
 split at q
 case h_2 => cases q
 case h_1 dd cd sl ho =>
  split at q
  case h_2 => cases q
  case h_1 C' bm k0 k1 k2 k3 n k5 hm hs =>
   simp only [Bool.and_eq_true, beq_iff_eq, Bool.not_eq_true'] at q
   obtain ⟨⟨⟨⟨⟨rfl, rfl⟩, dl⟩, ht⟩, ok⟩, ni⟩ := q
   obtain ⟨nm, bs, mro, ns, qn, hd, sn, sub, ab, col, del⟩ := cd
   dsimp only at hm dl ok ni
   subst hm dl
   obtain ⟨l⟩ := sl
   simp only at hs
   subst hs
   exact ⟨bm, ns, nm, qn, bs, hd, sn, sub, ab, col, dd, k0, k1, k2, k3, k5, _, X _ _ ho, .of_isNs (PySem.W.isNs_of_in X ok), PySem.W.nsMap_none_of_in X ok ni, PySem.W.tail_of_in X ht⟩
def XB (K : PySem.W.Frag) (C : Addr) : Prop := (match K.lookup C with
 | some ⟨.type "type", _, .cls cd, sl⟩ => (match cd.mro, sl.toList with
  | .ref C' :: bm, [_, _, _, _, some (.builtin n), _] => C' == C && n == "ValueError.__new__" && !cd.hasDel && PySem.W.tailIn K bmV bm && PySem.W.nsOkIn K cd.ns
  | _, _ => false)
 | _ => false) = true
theorem XB.obj {K : PySem.W.Frag} {h : Heap} {C : Addr} (q : XB K C) (X : K.In h) : ∃ bm N nm qn bs hdct sn sub ab col dd k0 k1 k2 k3 k5 mN,
  h.get? C = some (excClassObj nm qn C N bs bm hdct sn sub ab col dd k0 k1 k2 k3 k5 "ValueError.__new__") ∧ h.Ns N mN ∧ OwnTail h bmV bm := by
 unfold XB at q
 split at q
 case h_2 => cases q
 case h_1 dd cd sl ho =>
  split at q
  case h_2 => cases q
  case h_1 C' bm k0 k1 k2 k3 n k5 hm hs =>
   simp only [Bool.and_eq_true, beq_iff_eq, Bool.not_eq_true'] at q
   obtain ⟨⟨⟨⟨rfl, rfl⟩, dl⟩, ht⟩, ok⟩ := q
   obtain ⟨nm, bs, mro, ns, qn, hd, sn, sub, ab, col, del⟩ := cd
   dsimp only at hm dl ok
   subst hm dl
   obtain ⟨l⟩ := sl
   simp only at hs
   subst hs
   exact ⟨bm, ns, nm, qn, bs, hd, sn, sub, ab, col, dd, k0, k1, k2, k3, k5, _, X _ _ ho, .of_isNs (PySem.W.isNs_of_in X ok), PySem.W.tail_of_in X ht⟩
theorem XC.b {K : PySem.W.Frag} {C : Addr} (q : XC K C) : XB K C := by
 have q : PySem.W.excIn K C bmV "ValueError.__new__" = true := q
 unfold PySem.W.excIn at q
 unfold XB
 split at q
 case h_2 => cases q
 case h_1 dd cd sl ho =>
  split at q
  case h_2 => cases q
  case h_1 C' bm k0 k1 k2 k3 n k5 hm hs =>
   rw [Bool.and_eq_true] at q
   rw [ho]
   show (match cd.mro, sl.toList with
    | .ref C' :: bm, [_, _, _, _, some (.builtin n), _] => C' == C && n == "ValueError.__new__" && !cd.hasDel && PySem.W.tailIn K bmV bm && PySem.W.nsOkIn K cd.ns
    | _, _ => false) = true
   rw [hm, hs]
   exact q.1
def tRaise (C : Addr) (E : XK) (t : TA) : TS := fun _ σ H => t σ H fun vs H1 => vs.length ≤ sizeLine ∧ E (.ref C) none H1
section
variable {P : Program} {w : World} {K : PySem.W.Frag} {mg : Str → Option Value} {base : Heap} {N : List Str} {qual : Str} {scope : Scope} {f : Addr} {cd : Value} {A : Around} {outer : List Env} {s₀ : Shared} {H₀ : Hp} {E : XK}
theorem powE : PassesOwn (model P w) (cxE P w K mg base N qual scope f cd A outer s₀ H₀ E).A (cxE P w K mg base N qual scope f cd A outer s₀ H₀ E).env (cxE P w K mg base N qual scope f cd A outer s₀ H₀ E).xe := PassesOwn.leaving
end
section
variable {P : Program} {w : World} {K : PySem.W.Frag} {mg : Str → Option Value} {base : Heap}
theorem Fun.okE {x qual : Str} {st : Stmt} {f : Addr} {fd : FuncData} {N ps : List Str} {k : Nat} {sp : Sp} (F : Fun K x qual st f fd) (S : FnScope N ps (defScope st)) (len : ∀ vs H Q E, sp vs H Q E → vs.length = ps.length)
  (hbody : ∀ (cdv : Value) (A : Around) (outer : List Env) (s : Shared) (H : Hp) (vs : List V) (Q : VK) (E : XK), Room k (A.deeper (envOfC qual (defScope st) s.heap.objs.size f cdv)) → sp vs H Q E →
   ∃ t, PSs (cxE P w K mg base N qual (defScope st) f cdv A outer s H E) (defBody st) t ∧ t { nx := fun _ H' => Q .non H', rt := Q } (start N vs) H) : FnOk P w K mg base (CXE P w) (k + 1) f fd ps sp := by
 obtain ⟨oc, od, kV, doc, pm, an, cdv, ct, osl, rfl, lk, hcd⟩ := F.ex
 exact zapz lk hcd S len fun A outer s H vs Q E hr hsp => hbody cdv A outer s H vs Q E hr hsp
theorem FnOk.calm {k : Nat} {f : Addr} {fd : FuncData} {ps : List Str} {sp sp' : Sp} (F : FnOk P w K mg base (CXE P w) k f fd ps sp) (h : ∀ vs H Q E, sp' vs H Q E → sp vs H Q E0) : FnOk P w K mg base CX0 k f fd ps sp' :=
 ⟨fun vs H Q E q => F.len vs H Q E0 (h _ _ _ _ q), fun A outer s H args us vs Q E hr he hb hv hs => codeAny_mono (F.run A outer s H args us vs Q E0 hr he hb hv (h _ _ _ _ hs)) fun r s' hq => by
  cases r with
  | ok fl => cases fl <;> exact hq
  | error e =>
   obtain ⟨ea, C, T, dx, H', _, _, _, _, _, _, _, _, _, _, z⟩ := (show CXE P w outer H s E0 e s' from hq)
   exact z.elim⟩
end
end L2

namespace L2
open PySem PySem.Spec PyProof.Rows
def Cx.hand (X : Cx) (v : Value) : Cx := { X with A := X.A.mark (some v), calm := false }
section
variable {X : Cx} {pins : List (Addr × Obj)} {σ : St} {H H' : Hp} {s s' : Shared} {v : Value}
theorem Inv.hand (I : Inv X pins σ H s) (v : Value) : Inv (X.hand v) pins σ H s :=
 ⟨⟨I.ok.mod, I.ok.kind, I.ok.glob, I.ok.blt, I.ok.above, I.ok.inj, I.ok.has, I.ok.cab, (fun z => by cases z), I.ok.frames, I.ok.stk, I.ok.exf, I.ok.bs, I.ok.bsz, I.ok.noex, I.ok.exfs, I.ok.funs, I.ok.frf⟩, I.os, I.bare, I.base, I.loc, I.cell, I.free, I.freeC, I.pin, I.hok, I.len⟩
theorem Inv.unhand (J : X.Ok) (I : Inv (X.hand v) pins σ H s) : Inv X pins σ H s := ⟨J, I.os, I.bare, I.base, I.loc, I.cell, I.free, I.freeC, I.pin, I.hok, I.len⟩
theorem Inv.track {a : Addr} {o : HO} (I : Inv X pins σ H s) (hn : H a = none) (n0 : X.s₀.heap.get? a = none) (nl : a ≠ X.env.locals) (nc : ∀ x c, X.env.cells.lookup x = some c → c ≠ a) (np : ∀ p ∈ X.pn ++ pins, p.1 ≠ a)
  (new : ObjOk X.prog X.w (upd H a o) s.heap a o) : Inv X pins σ (upd H a o) s := by
 have ne : ∀ b u, H b = some u → b ≠ a := fun b u e z => by rw [z, hn] at e; cases e
 refine ⟨I.ok, I.os, I.bare, ⟨I.base.keep, I.base.slot, fun b o' e n hx => ?_, I.base.there, fun b xs e => ?_, fun b o' u e => ?_, fun b ps e => ?_⟩, I.loc, I.cell, ?_, fun x c e => ?_, fun p hp => ?_, fun b u e => ?_, I.len⟩
 ·rw [zaav (fun z => by rw [z, n0] at e; cases e)]
  exact I.base.free b o' e n hx
 ·have q := I.base.tups b xs e
  rw [zaav (ne b _ q)]
  exact q
 ·have q := I.base.frzs b o' u e
  rw [zaav (ne b _ q)]
  exact q
 ·obtain ⟨more, q⟩ := I.base.tbls b ps e
  exact ⟨more, by rw [zaav (ne b _ q)]; exact q⟩
 ·rw [zaav (Ne.symm nl)]
  exact I.free
 ·rw [zaav (nc x c e)]
  exact I.freeC x c e
 ·obtain ⟨q1, q2, q3⟩ := I.pin p hp
  exact ⟨q1, by rw [zaav (np p hp)]; exact q2, q3⟩
 ·by_cases hb : b = a
  ·subst hb
   rw [zaah] at e
   cases e
   exact new
  ·rw [zaav hb] at e
   exact (I.hok b u e).stay (fun _ _ _ q => q) (fun c q => by rw [zaav (ne c _ q)]; exact q) fun c xs q => by rw [zaav (ne c _ q)]; exact q
def exO (a C : Addr) (dx : Option Addr := none) : HO := .ext fun h => ∃ o vs, h.get? a = some o ∧ (o.cls = .ref C ∧ o.dict = dx) ∧ o.data = .fields vs ∧ vs[2]? = some .none
theorem zaqc {P : Program} {w : World} {H : Hp} {h : Heap} {a C T : Addr} {dx : Option Addr} {fl : Value} (f : Fl h a C dx T fl) : ObjOk P w H h a (exO a C dx) := by
 obtain ⟨oe, vs, h1, h2, h3, _, h5⟩ := f.ob
 exact ⟨⟨oe, vs, h1, h2, h3, h5⟩, ⟨oe, h1⟩, fun g1 g2 ⟨o, ws, q1, q2⟩ k => ⟨o, ws, k o q1, q2⟩⟩
theorem zaod {P : Program} {w : World} {H : Hp} {h : Heap} {a C : Addr} {dx : Option Addr} (ok : HOk P w H h) (e : H a = some (exO a C dx)) : ∃ o vs, h.get? a = some o ∧ (o.cls = .ref C ∧ o.dict = dx) ∧ o.data = .fields vs ∧ vs[2]? = some .none := (ok a _ e).1
theorem zagu {M : Model} {A : Around} {E : Value → Shared → Prop} {i : Nat} {x : Str} {pos : Pos} {Q : Unit → Shared → Prop} (I : Inv X pins σ H s) (hN : X.N.Nodup) (hi : X.N[i]? = some x) (hk : X.env.scope.names.lookup x = some .local)
  (h : ∀ s', Inv X pins (σ.set i none) H s' → Q () s') : wpAny M A (do bindName X.env x .none; unbindBehindTheSuite X.env x pos) Q E s := by
 obtain ⟨m, hn, hl⟩ := id I.loc
 have hcls : (X.env.scope.kind == .class || (X.env.scope.kind == .module && X.env.locals != X.env.globals)) = false := by rw [I.ok.kind]; rfl
 refine wpAny_nameGoes_keeps hk hn hcls fun h' v hn' hs => h _ ?_
 have nb : ∀ b, (∃ o, X.s₀.heap.get? b = some o) → b ≠ X.env.locals := fun b ⟨o, e⟩ => Nat.ne_of_lt (Nat.lt_of_lt_of_le (Heap.lt_size e) I.ok.above)
 refine ⟨I.ok, I.os, I.bare, ⟨fun b o e n hb hx => ?_, fun b o e n hb hx => ?_, I.base.free, fun b o e hx => ?_, I.base.tups, I.base.frzs, I.base.tbls⟩, ⟨_, hn', fun j y v' e1 e2 e3 => ?_⟩, fun y c e => ?_, I.free, I.freeC, fun p hp => ?_, fun b ob e => ?_, by rw [List.length_set]; exact I.len⟩
 ·exact (hs.2 b (nb b ⟨o, e⟩)).trans (I.base.keep b o e n hb hx)
 ·obtain ⟨sl, e1⟩ := I.base.slot b o e n hb hx
  exact ⟨sl, (hs.2 b (nb b ⟨o, e⟩)).trans e1⟩
 ·obtain ⟨o', e1⟩ := I.base.there b o e hx
  exact ⟨o', (hs.2 b (nb b ⟨o, e⟩)).trans e1⟩
 ·have hj : j ≠ i := fun z => by
   subst z
   rw [List.getElem?_set_self (by rw [I.len]; exact (List.getElem?_eq_some_iff.mp hi).1)] at e2
   cases e2
  rw [List.getElem?_set_ne (Ne.symm hj)] at e2
  obtain ⟨u', r', q⟩ := hl j y v' e1 e2 e3
  refine ⟨u', r', ?_⟩
  rcases q with ⟨k, e⟩ | ⟨k, c, e, z⟩
  ·have ny : y ≠ x := fun e => hj (zagl hN e1 (e ▸ hi))
   exact .inl ⟨k, by simp [ny, e]⟩
  ·exact .inr ⟨k, c, e, z.sameBut hs (I.cne y c e)⟩
 ·obtain ⟨w', z⟩ := I.cell y c e
  exact ⟨w', z.sameBut hs (I.cne y c e)⟩
 ·obtain ⟨e, n, ne, nf, d⟩ := I.pin p hp
  exact ⟨(hs.2 p.1 ne).trans e, n, ne, nf, d⟩
 ·refine (I.hok b ob e).stay (fun c w' hc q => (hs.2 c fun z => ?_).trans q) (fun _ q => q) fun _ _ q => q
  have f := I.free
  rcases hc with hc | hc
  ·rw [← z, hc, e] at f; cases f
  ·rw [← z, hc] at f; cases f
end
def XSub (K : PySem.W.Frag) (C CF : Addr) : Prop := (match K.lookup C with
 | some ⟨_, _, .cls cd, _⟩ => cd.mro.contains (.ref CF)
 | _ => false) = true
section
variable {M : Model} {A : Around} {E : Value → Shared → Prop} {s : Shared} {K : PySem.W.Frag} {C CF e : Addr}
theorem zal8 {oe : Obj} {Q : Bool → Shared → Prop} (X : K.In s.heap) (c1 : XB K C) (c2 : XB K CF) (sb : XSub K C CF) (ge : s.heap.get? e = some oe) (gc : oe.cls = .ref C) (k : Q true s) : wpAny M A (excMatches (.ref e) (.ref CF)) Q E s := by
 obtain ⟨bm, N, nm, qn, bs, hdct, sn, sub, ab, col, dd, k0, k1, k2, k3, k5, mN, hC, _, T⟩ := c1.obj X
 obtain ⟨bm', N', nm', qn', bs', hdct', sn', sub', ab', col', dd', k0', k1', k2', k3', k5', mN', hF, _, T'⟩ := c2.obj X
 have z1 : (Value.ref CF :: bm').contains (.type "BaseException") = true := by rw [List.contains_cons, T'.hasType PySem.F.excBase_ValueError.hasBase, Bool.or_true]
 have z2 : (Value.ref C :: bm).contains (.ref CF) = true := by
  have sb : (match K.lookup C with
   | some ⟨_, _, .cls cd, _⟩ => cd.mro.contains (.ref CF)
   | _ => false) = true := sb
  split at sb
  case h_2 => cases sb
  case h_1 cl di cd sl ho =>
   have q := X _ _ ho
   rw [hC] at q
   cases q
   exact sb
 have ft := tc_notTuple
 obtain ⟨h, g, d, t, os⟩ := s
 unfold excMatches
 repeat (first
  | (with_reducible refine wpAny_loadPart_at ge ?_; rw [gc])
  | with_reducible refine wpAny_loadPart_at hF ?_
  | (with_reducible refine wpAny_isSubtype_exc hF ?_; rw [z1])
  | (with_reducible refine wpAny_isSubtype_exc hC ?_; rw [z2])
  | wp_step)
 exact k
end
end L2

namespace L2
open PySem PySem.Spec PyProof.Rows
abbrev XW := XK
abbrev XD := St → XK
def XE (X : Cx) (pins : List (Addr × Obj)) (σ : St) (Ew : XW) (e : Value) (s' : Shared) : Prop := ∃ H1 s1, Inv X pins σ H1 s1 ∧ CXE X.prog X.w X.stack H1 s1 Ew e s'
def XPs (X : Cx) (pins : List (Addr × Obj)) (Dx : XD) (e : Value) (s' : Shared) : Prop := ∃ σ1, XE X pins σ1 (Dx σ1) e s'
abbrev TEX := St → Hp → VK → XW → Prop
abbrev TSX := Ends → XD → St → Hp → Prop
def PEX (X : Cx) (e : Expr) (t : TEX) : Prop :=
 ∀ (pins : List (Addr × Obj)) (s : Shared) (σ : St) (H : Hp) (Q : VK) (Ew : XW), Inv X pins σ H s → t σ H Q Ew → wpAny (model X.prog X.w) X.A (eval e X.env) (EP X pins σ Q) (XE X pins σ Ew) s
def PSX (X : Cx) (st : Stmt) (t : TSX) : Prop :=
 ∀ (pins : List (Addr × Obj)) (s : Shared) (σ : St) (H : Hp) (D : Ends) (Dx : XD), Inv X pins σ H s → t D Dx σ H → wpAny (model X.prog X.w) X.A (exec st X.env) (SP X pins D) (XPs X pins Dx) s
def PSXs (X : Cx) (st : List Stmt) (t : TSX) : Prop :=
 ∀ (pins : List (Addr × Obj)) (s : Shared) (σ : St) (H : Hp) (D : Ends) (Dx : XD), Inv X pins σ H s → t D Dx σ H → wpAny (model X.prog X.w) X.A (execs st X.env) (SP X pins D) (XPs X pins Dx) s
def Nox (X : Cx) : Prop := ∀ e s, X.xe e s → False
def tCallX (sp : Sp) (t : TA) : TEX := fun σ H Q Ew => t σ H fun vs H1 => sp vs H1 Q Ew
def tMethX (C : Addr) (m : Str) (sp : Sp) (ta : TE) (t : TA) : TEX := fun σ H Q Ew => ta σ H fun x H1 => ∃ a dx fs, x = .ref a ∧ H1 a = some (.ins C dx fs) ∧ fs.lookup m = none ∧ t σ H1 fun vs H2 => sp (x :: vs) H2 Q Ew
def tDropX (t : TEX) : TSX := fun D Dx σ H => t σ H (fun _ H1 => D.nx σ H1) (Dx σ)
def tIfX (tc : TT) (a b : TSX) : TSX := fun D Dx σ H => tc σ H fun c H1 => if c = true then a D Dx σ H1 else b D Dx σ H1
section
variable {X : Cx} {k : Nat} {f C : Addr} {fd : FuncData} {ps : List Str} {sp : Sp} {x m : Str} {p pos apos : Pos} {e o : Expr} {es : List Expr} {ta : TE} {t : TA}
theorem zaoe {pins : List (Addr × Obj)} {σ : St} {H : Hp} {s : Shared} {Q : VK} {Ew : XW} {us : List Value} {vs : List V} (F : FnOk X.prog X.w X.K X.mg X.base (CXE X.prog X.w) k f fd ps sp) (hr : Room k X.A) (hb : Binds X.K fd ps [])
  (I : Inv X pins σ H s) (r : Vals vs us) (h : sp vs H Q Ew) : wpAny (model X.prog X.w) X.A (call (.ref f) us) (EP X pins σ Q) (XE X pins σ Ew) s := by
 have hl : us.length = ps.length := by rw [← r.length]; exact F.len _ _ _ _ h
 have bt := hb s us I.kIn (by rw [List.append_nil]; exact hl)
 rw [List.append_nil] at bt
 refine wpAny_call (codeAny_mono (F.run X.A X.stack s H ⟨us, []⟩ us vs Q _ hr I.env0 bt r h) fun r s' hq => ?_)
 cases r with
 | error e => exact ⟨H, s, I, hq⟩
 | ok fl =>
  cases fl with
  | ret u => exact I.after hq
  | next => exact False.elim hq
  | brk => exact False.elim hq
  | cont => exact False.elim hq
theorem zal9 (hx : Nox X) (D : DefOk X.prog X.w X.K X.mg X.base (CXE X.prog X.w) k x ps sp) (hr : Room k X.A) (hg : Gl X x) (ha : Pr (PA X (e :: es) t)) (hdb : (x == ("__debug__" : Str)) = false := by decide)
  (he : starEach (e :: es) X.env = (false, eval e X.env) :: starEach es X.env := by rfl) (hpl : (backTo pos (starEach es X.env)).any (·.1) = false := by rfl) : PEX X (.Call (.Name x p) (e :: es) [] pos) (tCallX sp t) := by
 obtain ⟨f, fd, F, b, kp, m⟩ := D.ex
 intro pins s σ H Q Ew I h
 refine wpAny_Call_Name_kw (zaef I hg m ?_ hdb)
 refine PySem.W.callWith_K (h₀ := X.base) I.ok.mod.kin kp (wpAny_mono (ha.h pos pins s σ H _ I h) (fun us s1 ⟨vs, H1, I1, r, q⟩ => ⟨I1.kIn, ?_⟩) fun _ _ z => (hx _ _ z).elim) he hpl
 exact zaoe F hr b I1 r q
theorem zama {te : TEX} (he : PEX X e te) (hs : swapsWith e none pos.line X.env = pure false := by rfl) : PSX X (.Expr e pos) (tDropX te) := by
 intro pins s σ H D Dx I h
 exact wpAny_Expr_any (wpAny_mono (he pins s σ H _ _ I h) (fun v s1 ⟨x, H1, I1, r1, q1⟩ => ⟨σ, H1, I1, q1⟩) fun e s' q => ⟨σ, q⟩) I.quiet hs
theorem zamb {st : Stmt} {t : TSX} (h1 : PSX X st t) : PSXs X [st] t := by
 intro pins s σ H D Dx I h
 refine wpAny_execs_cons (thn (h1 pins s σ H D Dx I h) fun f s1 q => ?_)
 cases f with
 | next => exact wpAny_execs_nil q
 | ret v => exact q
 | brk => exact q
 | cont => exact q
end
def tTry (K : PySem.W.Frag) (CF : Addr) (i : Nat) (tb : TSX) (ts : Addr → TS) : TS := fun D σ H => tb D (fun σ1 c dx H' => ∃ C, c = .ref C ∧ XB K C ∧ XSub K C CF ∧ ∀ ea, H' ea = none →
 ts ea { nx := fun σ2 H2 => D.nx (σ2.set i none) H2, rt := D.rt, bk := fun σ2 H2 => D.bk (σ2.set i none) H2, ct := fun σ2 H2 => D.ct (σ2.set i none) H2 } (σ1.set i (some (.ref ea))) (upd H' ea (exO ea C dx))) σ H
section
variable {X : Cx}
theorem zaqd {x n : Str} {CF : Addr} {i : Nat} {body suite : List Stmt} {b₀ : Stmt} {tb : TSX} {ts : Addr → TS} {np hpos pos : Pos} (hx : Nox X) (hst : X.stack = X.env :: X.outer) (hfr : X.env.frame = some X.env.locals) (hex : X.ex = []) (hN : X.N.Nodup) (hi : X.N[i]? = some n)
  (hk : X.env.scope.names.lookup n = some .local) (hg : Gl X x) (hm : X.mg x = some (.ref CF)) (xf : XB X.K CF) (hb : PSXs X body tb) (hs : ∀ ea, PSs (X.hand (.ref ea)) (b₀ :: suite) (ts ea)) (hdb : (x == ("__debug__" : Str)) = false := by decide) :
  PS X (.Try body [.ExceptHandler (some (.Name x np)) (some n) (b₀ :: suite) hpos] [] [] pos) (tTry X.K CF i tb ts) := by
 intro pins s σ H D I h
 refine wpAny_Try_except (wpAny_mono (hb pins s σ H D _ I h) (fun f s1 q => ?_) fun e s1 q => ?_)
 ·cases f with
  | next => exact wpAny_execs_nil q
  | ret v => exact q
  | brk => exact q
  | cont => exact q
 ·obtain ⟨σ1, H1, s2, I2, ea, C, T, dx, H', rfl, os, bare, un, hok, fl, n1, n2, t1, t2, C', ec, xc, sb, q⟩ := q
  obtain rfl : C = C' := by cases ec; rfl
  have J : Inv X pins σ1 H' s1 := I2.call' (ch := []) os un hok bare (fun b z => absurd z (by simp))
  have fr : X.A.frames = some (X.env :: X.outer) := by rw [← hst]; exact J.ok.frames
  have ff : s1.heap.FunFrames X.base (X.env :: X.outer) := by rw [← hst]; exact J.stack
  refine zakr fr ff hfr fl fun h2 T1 kb fl2 nT => zagt fl2 fun h3 kb3 fl3 => ?_
  have k3 : KB [T, ea, T1] (frs X.stack) s1.heap h3 := by rw [hst]; exact kb.trans kb3.fs
  have hA : ∀ b ∈ [T, ea, T1], X.s₀.heap.get? b = none ∧ H' b = none ∧ b ≠ X.env.locals ∧ (∀ x c, X.env.cells.lookup x = some c → c ≠ b) ∧ ∀ p ∈ X.pn ++ pins, p.1 ≠ b := fun b hb => by
   simp only [List.mem_cons, List.not_mem_nil, or_false] at hb
   rcases hb with rfl | rfl | rfl
   ·exact ⟨I2.alien0 hex n2, t2, I2.alien n2⟩
   ·exact ⟨I2.alien0 hex n1, t1, I2.alien n1⟩
   ·exact ⟨J.alien0 hex nT, J.hok.alien nT, J.alien nT⟩
  have J3 : Inv X pins σ1 H' { s1 with heap := h3 } := J.fly k3 hA
  have J3h := J3.hand (.ref ea)
  obtain ⟨oe, vs, g1, ⟨g2, _⟩, _⟩ := fl3.ob
  refine wpAny_handleBy_cons (codeAny_handlers_test (zaef (X := X.hand (.ref ea)) J3h hg hm (zal8 J3.kIn xc xf sb g1 g2 ?_) hdb)) (by intro z; cases z)
  refine codeAny_handlers_suite_as ?_
  refine zagt fl3 fun h4 kb4 fl4 => ?_
  have J4 : Inv X pins σ1 H' { s1 with heap := h4 } := J3.fly kb4.fs fun b hb => hA b (by simp only [List.mem_cons, List.not_mem_nil, or_false] at hb ⊢; exact .inr (.inr hb))
  obtain ⟨a0, a1, a2, a3, a4⟩ := hA ea (by simp)
  have J5 := (J4.track (o := exO ea C dx) a1 a0 a2 a3 a4 (zaqc fl4)).hand (.ref ea)
  refine zae7 (X := X.hand (.ref ea)) (v := V.ref ea) J5 hN hi (.inl hk) (show RelV (V.ref ea) (Value.ref ea) from rfl) (fun s5 J6 => ?_) (.inr hk)
  refine wpAny_mono (hs ea pins s5 _ _ _ J6 (q ea a1)) (fun f s6 q6 => ?_) fun _ _ z => (hx _ _ z).elim
  cases f with
  | next =>
   obtain ⟨σ7, H7, J7, q7⟩ := q6
   exact zagu (J7.unhand J.ok) hN hi hk fun s' J8 => ⟨_, H7, J8, q7⟩
  | brk =>
   obtain ⟨σ7, H7, J7, q7⟩ := q6
   exact zagu (J7.unhand J.ok) hN hi hk fun s' J8 => ⟨_, H7, J8, q7⟩
  | cont =>
   obtain ⟨σ7, H7, J7, q7⟩ := q6
   exact zagu (J7.unhand J.ok) hN hi hk fun s' J8 => ⟨_, H7, J8, q7⟩
  | ret u =>
   obtain ⟨v, σ7, H7, J7, rv, q7⟩ := q6
   exact zagu (J7.unhand J.ok) hN hi hk fun s' J8 => ⟨v, _, H7, J8, rv, q7⟩
end
end L2

namespace L2
open PySem PySem.Spec PyProof.Rows
section
variable {prog : Program} {w : World} {A : Around} {E : Value → Shared → Prop} {s : Shared}
end
def ItrH (ea : Addr) (lo : Int) (n : Nat) : It := ⟨fun i _ => i < n, fun i H x H' => H' = H ∧ x = .int (lo + i), fun i H => n ≤ i ∧ ∃ C dx, H ea = some (exO ea C dx)⟩
def PIG (G : Cx → Prop) (X : Cx) (tg iter : Expr) (wi : TI) : Prop :=
 ∀ (pins : List (Addr × Obj)) (s : Shared) (σ : St) (H : Hp) (R : It → Hp → Prop), Inv X pins σ H s → wi σ H R →
  wpAny (model X.prog X.w) X.A (eval iter X.env) (fun v s1 => wpAny (model X.prog X.w) X.A (pyIter v) (fun itv s2 => ∃ (it : Addr) (fp : List Addr) (tn : Nat → Heap → Prop) (J : It) (H' : Hp), itv = .ref it ∧ Inv X pins σ H' s2 ∧ TurnX G X.prog X.w X.K tg J fp it tn ∧ tn 0 s2.heap ∧ (∀ b ∈ fp, FpOk X pins H' b) ∧ R J H') X.xe s1) X.xe s
def iRngH (ea : Addr) (ta : TA) : TI := fun σ H R => ta σ H fun vs H1 => ∃ j : Int, vs = [.int j] ∧ -(2 ^ 62) ≤ j ∧ j < 2 ^ 62 ∧ R (ItrH ea 0 j.toNat) H1
section
variable {X : Cx} {tg : Expr}
end
end L2

namespace L2
open PySem PySem.Spec PyProof.Rows PySem.W
structure XA (K : PySem.W.Frag) (C : Addr) : Prop where
 xc : XB K C
 ga : findIn K (.ref C) "__getattribute__" = some (some (.builtin "BaseException.__getattribute__"))
 gt : findIn K (.ref C) "__getattr__" = some none
 cl : findIn K (.ref C) "__class__" = some (some (.builtin "object.__class__"))
 sg : specialIn K (.builtin "object.__class__") "__get__" = some (some (.builtin "getset_descriptor.__get__"))
 tk : takesIn K (.builtin "object.__class__") = some true
 mo : mroIn K C (.type "object") = some true
 cs : (clsIn K C).isSome = true
section
variable {prog : Program} {w : World} {A : Around} {E : Value → Shared → Prop} {s : Shared} {K : Frag} {x C : Addr} {ox : Obj} {od : Option Obj}
end
def XDx (H : Hp) (dx : Option Addr) : Prop := ∀ d, dx = some d → ∃ fs, H d = some (.xd fs)
def rIsX (K : Frag) : List V → Hp → VK → Prop := fun xs H Q => ∃ (ea C : Addr) (dx : Option Addr) (c : V) (b : Bool), xs = [.ref ea, c] ∧ H ea = some (exO ea C dx) ∧ XDx H dx ∧ XA K C ∧ ((∃ CF, c = .ref CF ∧ kitOne K (.ref C) (.ref CF) = some b) ∨ ∃ T, c = .ty T ∧ kitOne K (.ref C) (.type T) = some b) ∧ Q (.bl b) H
end L2

namespace L2
open PySem PySem.Spec PyProof.Rows
structure RoomH (ea : Addr) (k : Nat) (A : Around) : Prop where
 hd : A.handled = some (.ref ea)
 dp : A.depth + 3 * k + 5 < recursionLimit
 un : A.units + 16 * k + 200 < cLine
structure FnOkH (P : Program) (w : World) (K : PySem.W.Frag) (mg : Str → Option Value) (base : Heap) (k : Nat) (f : Addr) (fd : FuncData) (ps : List Str) (sp : Addr → Sp) : Prop where
 len : ∀ ea vs H Q E, sp ea vs H Q E → vs.length = ps.length
 run : ∀ (ea : Addr) (A : Around) (outer : List Env) (s : Shared) (H : Hp) (args : Args) (us : List Value) (vs : List V) (Q : VK), RoomH ea k A → Env0 P w K mg base A outer s H → BindsTo s fd args (ps.zip us) → Vals vs us → sp ea vs H Q E0 →
  codeAny (model P w) A (.call (.ref f) args) (CR CX0 outer P w H s Q E0) s
structure DefOkH (P : Program) (w : World) (K : PySem.W.Frag) (mg : Str → Option Value) (base : Heap) (k : Nat) (x : Str) (ps : List Str) (sp : Addr → Sp) : Prop where
 ex : ∃ (f : Addr) (fd : FuncData), FnOkH P w K mg base k f fd ps sp ∧ Binds K fd ps [] ∧ PySem.W.keepIn K (.ref f) = true ∧ mg x = some (.ref f)
def tCallH (ea : Addr) (sp : Addr → Sp) (t : TA) : TE := fun σ H Q => t σ H fun vs H1 => sp ea vs H1 Q E0
section
variable {X : Cx} {k : Nat} {x : Str} {ps : List Str} {p pos : Pos} {e : Expr} {es : List Expr} {t : TA}
end
def cxH (P : Program) (w : World) (K : PySem.W.Frag) (mg : Str → Option Value) (base : Heap) (N : List Str) (qual : Str) (scope : Scope) (f : Addr) (cd : Value) (A : Around) (outer : List Env) (s : Shared) (H : Hp) : Cx :=
 { cxOf CX0 P w K mg base N qual scope f cd { A with handled := none } outer s H E0 with A := A.deeper (envOfC qual scope s.heap.objs.size f cd), calm := false, xe := fun _ _ => False }
section
variable {X : Cx} {sc : Scope} {own : List Str} {fr : List Nat} {N' : List Str} {tg elt iter : Expr} {ifs : List Expr} {g : TG} {tt : TT} {te : TE} {wi : TI} {pos : Pos} {G : Cx → Prop}
end
section
variable {X : Cx}
theorem zaof {x n : Str} {CF : Addr} {i : Nat} {body suite : List Stmt} {b₀ : Stmt} {tb : TSX} {ts : Addr → TS} {np hpos pos : Pos} (hx : Nox X) (hst : X.stack = X.env :: X.outer) (hfr : X.env.frame = some X.env.locals) (hex : X.ex = []) (hN : X.N.Nodup) (hi : X.N[i]? = some n)
  (hk : X.env.scope.names.lookup n = some .local) (hg : Gl X x) (hm : X.mg x = some (.ref CF)) (xf : XB X.K CF) (hb : PSXs X body tb) (hs : ∀ ea, Pr (PSs (X.hand (.ref ea)) (b₀ :: suite) (ts ea))) (hdb : (x == ("__debug__" : Str)) = false := by decide) :
  Pr (PS X (.Try body [.ExceptHandler (some (.Name x np)) (some n) (b₀ :: suite) hpos] [] [] pos) (tTry X.K CF i tb ts)) := ⟨zaqd hx hst hfr hex hN hi hk hg hm xf hb (fun ea => (hs ea).h) hdb⟩
end
end L2

namespace L2
open PySem PySem.Spec PyProof.Rows PySem.SeqAt
theorem zagc : ∀ {ns : List Int} {its : List Value}, Vals (ns.map V.int) its → ∃ ps : List (Int × Tok), its = ps.map (fun p => Value.int p.1 p.2) ∧ ps.map (·.1) = ns
 | [], _, .nil => ⟨[], rfl, rfl⟩
 | n :: ns, _, .cons r t => by
  obtain ⟨ps, e, f⟩ := zagc t
  obtain ⟨k, rfl⟩ := r
  exact ⟨(n, k) :: ps, by rw [e]; rfl, by rw [← f]; rfl⟩
section
variable {X : Cx}
theorem zadd (hc : X.calm = true) : CallR X (.builtin "sum") (fun xs H Q => ∃ (p : Addr) (ns : List Int), xs = [.ref p] ∧ H p = some (.lst (ns.map V.int)) ∧ Q (.int ns.sum) H) := by
 intro pins s σ H xs us Q I r h
 obtain ⟨p, ns, rfl, hp, q⟩ := h
 obtain ⟨u, rfl, ru⟩ := vals1 r
 cases ru
 obtain ⟨z, its, n, rv, e⟩ := I.hok p _ hp
 obtain ⟨ps, rfl, f⟩ := zagc rv
 have ea : (ps.map fun p => Value.int p.1 p.2).toArray = intItems ps.toArray := by simp [intItems]
 have hl : s.heap.IsList p (intItems ps.toArray) := ⟨_, e, rfl, n, by rw [← ea]⟩
 refine sum_intListG (by first | exact I.ok.hd hc | (show X.A.in1.handled = none; exact I.ok.hd hc)) hl fun h' tk t' hk => ?_
 refine ⟨.int ns.sum, H, I.kept (t' := tk) hk, ⟨t', ?_⟩, q⟩
 rw [preSum_eq, List.take_of_length_le (by simp)]
 show Value.int (ps.map (·.1)).sum t' = _
 rw [f]
end
def Itv (K : PySem.W.Frag) (a : Addr) (xs : List V) : It :=
 ⟨fun i H => SqL K H a xs ∧ i < xs.length, fun i H x H' => H' = H ∧ xs.reverse[i]? = some x, fun i H => SqL K H a xs ∧ xs.length ≤ i⟩
section
variable {X : Cx} {tg : Expr}
def iRev (K : PySem.W.Frag) (ta : TA) : TI := fun σ H R => ta σ H fun vs H1 => ∃ a xs, vs = [.ref a] ∧ SqL K H1 a xs ∧ R (Itv K a xs) H1
end
def Eq0 (x y : V) : Prop := x = y ∧ ((∃ i, x = .int i) ∨ ∃ a, x = .ref a)
def Eq1 (H : Hp) (x y : V) : Prop := ∃ (p q : Addr) (zs : List V), x = .ref p ∧ y = .ref q ∧ p ≠ q ∧ H p = some (.lst zs) ∧ H q = some (.lst zs) ∧ ∀ z ∈ zs, Eq0 z z
section
variable {X : Cx}
def rNeL : R2 := fun x y H Q => ∃ (a b : Addr) (xs ys : List V), x = .ref a ∧ y = .ref b ∧ H a = some (.lst xs) ∧ H b = some (.lst ys) ∧ xs.length = ys.length ∧ (∀ (i : Nat) (x y : V), xs[i]? = some x → ys[i]? = some y → Eq1 H x y) ∧ Q (.bl false) H
end
end L2

namespace L2
open PySem PySem.Spec PyProof.Rows PySem.SeqAt
def Sca (x : V) : Prop := (∃ i, x = .int i) ∨ ∃ t, x = .str t
structure ScaL (xs : List V) : Prop where
 h : ∀ z ∈ xs, Sca z
theorem zaog {α : Type} [BEq α] [LawfulBEq α] [DecidableEq α] (a b : α) : (a == b) = decide (a = b) := by
 by_cases h : a = b
 ·subst h; simp
 ·rw [decide_eq_false h]; exact beq_eq_false_iff_ne.mpr h
theorem zaqe {A : Around} {s : Shared} {x y : V} {u v : Value} (hx : Sca x) (hy : Sca y) (ru : RelV x u) (rv : RelV y v) : EqAt A s u v (decide (x = y)) := by
 rcases hx with ⟨i, rfl⟩ | ⟨i, rfl⟩ <;> rcases hy with ⟨j, rfl⟩ | ⟨j, rfl⟩ <;> obtain ⟨t, rfl⟩ := ru <;> obtain ⟨t', rfl⟩ := rv
 ·have := EqAt.int_int (A := A) (s := s) i t j t'
  rw [zaog] at this
  rwa [show decide (V.int i = V.int j) = decide (i = j) from by by_cases h : i = j <;> simp [h]]
 ·rw [show decide (V.int i = V.str j) = false from by simp]
  exact EqAt.int_str i t j t'
 ·rw [show decide (V.str i = V.int j) = false from by simp]
  exact EqAt.str_int i t j t'
 ·have := EqAt.str_str (A := A) (s := s) i t j t'
  rw [show decide (V.str i = V.str j) = (i == j) from by
   by_cases h : i = j
   ·subst h; simp
   ·rw [decide_eq_false (fun z => h (V.str.inj z))]; exact (beq_eq_false_iff_ne.mpr h).symm]
  exact this
theorem zam1 {xs ys : List V} : ((List.range (min xs.length ys.length)).all (fun j => decide (xs[j]? = ys[j]?)) && xs.length == ys.length) = decide (xs = ys) := by
 by_cases h : xs = ys
 ·subst h
  simp
 ·rw [decide_eq_false h]
  by_cases hl : xs.length = ys.length
  ·rw [Bool.and_eq_false_iff]
   refine .inl ?_
   rw [List.all_eq_false]
   refine Classical.byContradiction fun z => h (List.ext_getElem? fun j => ?_)
   by_cases hj : j < xs.length
   ·refine Classical.byContradiction fun y => z ⟨j, List.mem_range.mpr (by omega), by simpa using y⟩
   ·rw [List.getElem?_eq_none (by omega), List.getElem?_eq_none (by omega)]
  ·rw [Bool.and_eq_false_iff]
   exact .inr (beq_eq_false_iff_ne.mpr hl)
theorem zai2 {A : Around} {s : Shared} {xs ys : List V} {us vs : List Value} (hx : ScaL xs) (hy : ScaL ys) (ru : Vals xs us) (rv : Vals ys vs) (j : Nat) (h1 : j < us.toArray.size) (h2 : j < vs.toArray.size) :
  EqAt A s us.toArray[j] vs.toArray[j] (decide (xs[j]? = ys[j]?)) := by
 have l1 := ru.length
 have l2 := rv.length
 have h1' : j < us.length := by simpa using h1
 have h2' : j < vs.length := by simpa using h2
 have gx : xs[j]? = some (xs[j]'(by omega)) := List.getElem?_eq_getElem (by omega)
 have gy : ys[j]? = some (ys[j]'(by omega)) := List.getElem?_eq_getElem (by omega)
 obtain ⟨w1, hw1, r1⟩ := ru.get gx
 obtain ⟨w2, hw2, r2⟩ := rv.get gy
 have k1 : us.toArray[j] = w1 := by
  have := List.getElem?_eq_getElem h1'
  rw [hw1] at this
  simpa using (Option.some.inj this).symm
 have k2 : vs.toArray[j] = w2 := by
  have := List.getElem?_eq_getElem h2'
  rw [hw2] at this
  simpa using (Option.some.inj this).symm
 rw [k1, k2, gx, gy]
 have e : decide (some (xs[j]'(by omega)) = some (ys[j]'(by omega))) = decide (xs[j]'(by omega) = ys[j]'(by omega)) := by
  by_cases h : (xs[j]'(by omega)) = (ys[j]'(by omega)) <;> simp [h]
 rw [e]
 exact zaqe (hx.h _ (List.getElem_mem _)) (hy.h _ (List.getElem_mem _)) r1 r2
section
variable {X : Cx}
def rEqT : R2 := fun x y H Q => ∃ (a b : Addr) (xs ys : List V), x = .ref a ∧ y = .ref b ∧ H a = some (.tup xs) ∧ H b = some (.tup ys) ∧ ScaL xs ∧ ScaL ys ∧ Q (.bl (decide (xs = ys))) H
def rNeT : R2 := fun x y H Q => ∃ (a b : Addr) (xs ys : List V), x = .ref a ∧ y = .ref b ∧ H a = some (.tup xs) ∧ H b = some (.tup ys) ∧ ScaL xs ∧ ScaL ys ∧ Q (.bl (!decide (xs = ys))) H
theorem zam2 (hu : X.A.units + 64 < cLine) : OpR X (compareOp .Eq) rEqT := by
 intro pins s σ H x y v u Q I rx ry h
 obtain ⟨a, b, xs, ys, rfl, rfl, ha, hb, hx, hy, q⟩ := h
 cases rx
 cases ry
 obtain ⟨z, its, rv, t1⟩ := I.hok a _ ha
 obtain ⟨z2, its2, rv2, t2⟩ := I.hok b _ hb
 have key := RcAt.tuples (A := X.A) (s := s) t1 t2 (by omega) (zai2 hx hy rv rv2)
 have e : ((List.range (min its.toArray.size its2.toArray.size)).all (fun j => decide (xs[j]? = ys[j]?)) && its.toArray.size == its2.toArray.size) = decide (xs = ys) := by
  rw [← zam1, List.size_toArray, List.size_toArray, ← rv.length, ← rv2.length]
 rw [e] at key
 exact key X.prog X.w X.xe _ ⟨.bl _, H, I, rfl, q⟩
def rEqS : R2 := fun x y H Q => ∃ (a b : Addr) (xs ys : List V), x = .ref a ∧ y = .ref b ∧ H a = some (.lst xs) ∧ H b = some (.lst ys) ∧ ScaL xs ∧ ScaL ys ∧ Q (.bl (decide (xs = ys))) H
def rNeS : R2 := fun x y H Q => ∃ (a b : Addr) (xs ys : List V), x = .ref a ∧ y = .ref b ∧ H a = some (.lst xs) ∧ H b = some (.lst ys) ∧ ScaL xs ∧ ScaL ys ∧ Q (.bl (!decide (xs = ys))) H
theorem zaqf (hu : X.A.units + 64 < cLine) : OpR X (compareOp .NotEq) rNeS := by
 intro pins s σ H x y v u Q I rx ry h
 obtain ⟨a, b, xs, ys, rfl, rfl, ha, hb, hx, hy, q⟩ := h
 cases rx
 cases ry
 obtain ⟨z, its, n, rv, e⟩ := I.hok a _ ha
 obtain ⟨z2, its2, n2, rv2, e2⟩ := I.hok b _ hb
 have i1 : s.heap.IsList a its.toArray := ⟨_, e, rfl, n, rfl⟩
 have i2 : s.heap.IsList b its2.toArray := ⟨_, e2, rfl, n2, rfl⟩
 by_cases hl : xs.length = ys.length
 ·have key := RcNeAt.lists (A := X.A) (s := s) i1 i2 (by simp [← rv.length, ← rv2.length, hl]) (by omega) (zai2 hx hy rv rv2)
  have ea : ((List.range its.toArray.size).all (fun j => decide (xs[j]? = ys[j]?))) = decide (xs = ys) := by
   rw [← zam1, List.size_toArray, ← rv.length, ← hl, Nat.min_self]; simp
  rw [ea] at key
  exact key X.prog X.w X.xe _ ⟨.bl _, H, I, rfl, q⟩
 ·have key := RcNeAt.lists_lengths (A := X.A) (s := s) i1 i2 (by simp [← rv.length, ← rv2.length, hl]) (by omega)
  have ea : decide (xs = ys) = false := decide_eq_false fun z => hl (by rw [z])
  rw [ea] at q
  exact key X.prog X.w X.xe _ ⟨.bl _, H, I, rfl, q⟩
def rInN : R2 := fun x y H Q => ∃ (b : Addr) (ys : List V), x = .non ∧ y = .ref b ∧ H b = some (.lst ys) ∧ (∀ z ∈ ys, ∃ p, z = .ref p ∧ ((∃ zs, H p = some (.lst zs)) ∨ ∃ zs, H p = some (.tup zs))) ∧ Q (.bl false) H
end
end L2


namespace L2
open PySem PySem.W PyProof.Rows
structure Pm (n : Nat) (p : Array Nat) : Prop where
 perm : p.toList.Perm (List.range n)
section
variable {n : Nat} {L : Nat → Nat → Prop} [DecidableRel L] {cmp : Nat → Nat → (Bool → Shared → Prop) → Shared → Prop} {s : Shared}
def lR (L : Nat → Nat → Prop) (p : Array Nat) (i j : Nat) : Prop := L (p.getD i 0) (p.getD j 0)
instance lR_dec (p : Array Nat) (i j : Nat) : Decidable (lR L p i j) := inferInstanceAs (Decidable (L (p.getD i 0) (p.getD j 0)))
def Up (L : Nat → Nat → Prop) (p : Array Nat) (m : Nat) : Prop := ∀ i j, i < j → j < m → lR L p i j
def Dn (L : Nat → Nat → Prop) (p : Array Nat) (m : Nat) : Prop := ∀ i j, i < j → j < m → lR L p j i
structure Ord (n : Nat) (L : Nat → Nat → Prop) [DecidableRel L] (cmp : Nat → Nat → (Bool → Shared → Prop) → Shared → Prop) (s : Shared) : Prop where
 tr : ∀ {i j k}, L i j → L j k → L i k
 tot : ∀ i j, i < n → j < n → i ≠ j → ¬ L i j → L j i
 ask : ∀ i j C, i < n → j < n → C (decide (L i j)) s → cmp i j C s
end
end L2

namespace L2
open PySem PySem.W PyProof.Rows PySem.Calls
def KeptBut (a : Addr) (h h' : Heap) : Prop := ∀ b o, b ≠ a → h.get? b = some o → h'.get? b = some o
section
variable {prog : Program} {w : World} {A : Around} {E : Value → Shared → Prop} {s : Shared} {a : Addr} {vs : List Value} {κ : SortKind} {L : Nat → Nat → Prop} [DecidableRel L]
end
end L2

namespace L2
open PySem PySem.W PyProof.Rows PySem.SeqAt
def kLt : Key → Key → Prop
 | .inl a, .inl b => a < b
 | .inr x, .inr y => x.cps.toList < y.cps.toList
 | _, _ => False
instance kLt_dec : (a b : Key) → Decidable (kLt a b)
 | .inl a, .inl b => inferInstanceAs (Decidable (a < b))
 | .inr x, .inr y => inferInstanceAs (Decidable (x.cps.toList < y.cps.toList))
 | .inl _, .inr _ => isFalse id
 | .inr _, .inl _ => isFalse id
def kLex : List Key → List Key → Prop
 | k :: ks, k' :: ks' => if k = k' then kLex ks ks' else kLt k k'
 | _, _ => False
instance kLex_dec : (a b : List Key) → Decidable (kLex a b)
 | k :: ks, k' :: ks' => by
  unfold kLex
  by_cases h : k = k'
  ·rw [if_pos h]; exact kLex_dec ks ks'
  ·rw [if_neg h]; exact kLt_dec k k'
 | [], [] => isFalse id
 | [], _ :: _ => isFalse id
 | _ :: _, [] => isFalse id
section
variable {prog : Program} {w : World} {A : Around} {E : Value → Shared → Prop} {s : Shared}
end
end L2

namespace L2
open PySem PySem.W PyProof.Rows
structure DAt (h : Heap) (d : Addr) (es : Array DictEntry) (ep : Nat) : Prop where
 ex : ∃ o, h.get? d = some o ∧ o.ExactDict ∧ o.data = .dict es ep
def kitO (d : Addr) (i n ep : Nat) : Obj := { cls := .type "dict_keyiterator", data := .fields #[.ref d, .int i 0, .int n 0, .int ep 0] }
section
variable {prog : Program} {w : World} {A : Around} {E : Value → Shared → Prop} {s : Shared} {d it : Addr} {es : Array DictEntry} {ep i : Nat}
end
section
variable {prog : Program} {w : World} {A : Around} {R : Result → Shared → Prop} {d it S : Addr} {es : Array DictEntry} {ep : Nat}
end
end L2

namespace L2
open PySem PySem.W PyProof.Rows
section
variable {prog : Program} {w : World} {A : Around} {E : Value → Shared → Prop} {s : Shared} {d : Addr} {es : Array DictEntry} {ep : Nat}
end
end L2

namespace L2
open PySem PySem.W PyProof.Rows
def TKey (h : Heap) (k : List Key) (v : Value) : Prop := ∃ (p : Addr) (us : List Value), v = .ref p ∧ h.IsTuple p us.toArray ∧ Vals (k.map kV) us
abbrev TKs (h : Heap) : List (List Key) → List Value → Prop := Paired (TKey h)
section
variable {prog : Program} {w : World} {A : Around} {E : Value → Shared → Prop} {s : Shared} {a : Addr} {vs : List Value} {ks : List (List Key)} {g : Heap}
end
end L2

namespace L2
open PySem PySem.W PyProof.Rows PySem.Calls
section
variable {prog : Program} {w : World} {A : Around} {E : Value → Shared → Prop} {s : Shared} {a : Addr} {vs : List Value}
end
section
variable {X : Cx}
def rSrtT : List V → Hp → VK → Prop := fun xs H Q => ∃ (a : Addr) (kvs : List (List Key × V)) (b0 : Bool) (t0 : List Bool), xs = [.ref a] ∧ H a = some (.dT kvs) ∧ kvs.length < 64 ∧ (∀ p ∈ kvs, p.1.map Sum.isLeft = b0 :: t0) ∧
 ∀ (D : Addr) (ks : List (List Key)) (ps : List Addr), H D = none → ks.Perm (kvs.map (·.1)) → ks.Pairwise kLex → Paired (fun k p => H p = some (.tup (k.map kV))) ks ps → Q (.ref D) (upd H D (.lst (ps.map V.ref)))
end
end L2

namespace L2
open PySem PySem.W PyProof.Rows
section
variable {prog : Program} {w : World} {K : Type} [DecidableEq K] {knd : HeapKind prog w K} {A : Around} {E : Value → Shared → Prop} {s : Shared}
end
section
variable {X : Cx} {pins : List (Addr × Obj)} {σ : St} {H : Hp} {s : Shared} {A : Around} {E : Value → Shared → Prop}
end
def tDSetD (td ty tx : TE) : TE := fun σ H Q => td σ H fun x H1 => ∃ a, x = .ref a ∧ IsD H1 a ∧ ty σ H1 fun y H2 => tx σ H2 fun z H3 => ∃ b kvs k, H3 a = some (.dT kvs) ∧ y = .ref b ∧ H3 b = some (.tup (k.map kV)) ∧ kvs.length < sizeLine ∧
 (∀ v, valV kvs k = some v → Q v H3) ∧ (valV kvs k = none → Q z (upd H3 a (.dT (putK kvs k z))))
section
variable {X : Cx} {o e f : Expr} {apos cpos : Pos} {td ty tx : TE}
theorem zaif {i : Expr} {pos : Pos} (hu : X.A.units + 1 < cLine) (hi : Pr (PE X i ty)) (ho : Pr (PE X o td)) (h1 : behindInMarks .In o = false := by rfl) : Pr (PT X (.Compare i [.In] [o] pos) (tB (tDIn ty td))) := ⟨zamp (zap7 hu hi.h ho.h) h1⟩
theorem zaeo {i : Expr} {pos : Pos} (hu : X.A.units + 1 < cLine) (hi : Pr (PE X i ty)) (ho : Pr (PE X o td)) (h1 : behindInMarks .NotIn o = false := by rfl) : Pr (PT X (.Compare i [.NotIn] [o] pos) (tB (tDNotIn ty td))) := ⟨zamp (zahs hu hi.h ho.h) h1⟩
theorem zafo {i : Expr} {pos : Pos} (hu : X.A.units + 1 < cLine) (ho : Pr (PE X o td)) (hi : Pr (PE X i ty)) (hs : NoSl i) : Pr (PE X (.Subscript o i pos) (tDGet td ty)) := ⟨zany hu ho.h hi.h hs⟩
theorem zacm {i value : Expr} {tv : TE} {pos pos' : Pos} (hu : X.A.units + 1 < cLine) (ho : Pr (PE X o td)) (hi : Pr (PE X i ty)) (hv : Pr (PE X value tv)) (hs : swapsWith value (some (.Subscript o i pos')) pos.line X.env = pure false) :
  Pr (PS X (.Assign [.Subscript o i pos'] value pos) (sDPut td ty tv)) := ⟨zanz hu ho.h hi.h hv.h hs⟩
end
end L2

namespace L2
open PySem PySem.W PyProof.Rows
def sqO (k : SK) (xs : List V) : HO := match k with
 | .list => .lst xs
 | .tuple => .tup xs
def ItK (K : PySem.W.Frag) (k : SK) (a : Addr) : It := match k with
 | .list => Itl K a
 | .tuple => Itt K a
def iSq (K : PySem.W.Frag) (k : SK) (tl : TE) : TI := fun σ H R => tl σ H fun x H1 => ∃ a, x = .ref a ∧ (∃ xs, Sq k K H1 a xs) ∧ R (ItK K k a) H1
section
variable {X : Cx} {tg l : Expr}
theorem zaoh (K : PySem.W.Frag) (hK : X.K = K) (k : SK) {tl : TE} (hl : Pr (PE X l tl)) : Pr (PI X tg l (iSq K k tl)) := by
 cases k with
 | list => exact zakp K hK hl
 | tuple => exact zal6 K hK hl
end
end L2

namespace L2
open PySem PySem.Spec PyProof.Rows PySem.SeqAt
section
variable {prog : Program} {w : World} {A : Around} {E : Value → Shared → Prop} {s : Shared} {I : Addr} {fp wr : List Addr} {G : Array GenState → Array GenState → Prop} {n : Nat} {P : Nat → Value → Prop} {St : Nat → Shared → Prop}
end
section
variable {X : Cx}
def tTR (K : PySem.W.Frag) (ta : TA) : TE := fun σ H Q => ta σ H fun vs H1 => ∃ a xs, vs = [.ref a] ∧ SqL K H1 a xs ∧ ∀ D, H1 D = none → Q (.ref D) (upd H1 D (.tup xs.reverse))
def SameL (H : Hp) (u v : Addr) : Prop := u ≠ v ∧ ∃ ps : List Addr, H u = some (.lst (ps.map V.ref)) ∧ H v = some (.lst (ps.map V.ref))
def rNeW : R2 := fun x y H Q => ∃ (a b : Addr) (us vs : List Addr), x = .ref a ∧ y = .ref b ∧ H a = some (.tup (us.map V.ref)) ∧ H b = some (.tup (vs.map V.ref)) ∧ Paired (SameL H) us vs ∧ Q (.bl false) H
theorem zacx {α β : Type} {R : α → β → Prop} : ∀ {xs : List α} {ys : List β}, Paired R xs ys → ∀ (j : Nat) (h1 : j < xs.length) (h2 : j < ys.length), R xs[j] ys[j]
 | _, _, .nil, j, h1, _ => absurd h1 (Nat.not_lt_zero _)
 | _, _, .cons a t, 0, _, _ => a
 | _, _, .cons a t, j + 1, h1, h2 => by
  have := zacx t j (by simpa using h1) (by simpa using h2)
  simpa using this
end
end L2

namespace L2
open PySem PySem.Spec PyProof.Rows PySem.SeqAt
section
variable {X : Cx}
def Pl (x : V) : Prop := (∃ i, x = .int i) ∨ ∃ p, x = .ref p
def EqD (H : Hp) (x y : V) : Prop := (x = y ∧ Pl x) ∨ ∃ u v zs, x = .ref u ∧ y = .ref v ∧ H u = some (.tup zs) ∧ H v = some (.tup zs) ∧ ∀ z ∈ zs, Pl z
def rNeD : R2 := fun x y H Q => ∃ (a b : Addr) (xs ys : List V), x = .ref a ∧ y = .ref b ∧ H a = some (.tup xs) ∧ H b = some (.tup ys) ∧ Paired (EqD H) xs ys ∧ Q (.bl false) H
end
theorem zab9 {H : Hp} {a : Addr} {kvs : List (Key × V)} {x : Str} {v : V} (e : H a = some (.dK kvs)) (h : valV kvs (.inr x) = some v) : DGet H a (.str x) (some v) := h ▸ DGet.k (k := .inr x) e
end L2

namespace L2
open PySem
structure AF (sc : Scope) (N : List Str) : Prop where
 h : ∀ x ∈ N, (sc.names.lookup x = some .local ∨ sc.names.lookup x = some .cell) ∧ (x == ("__debug__" : Str)) = false ∧ (x == ("__classdict__" : Str)) = false
structure AV (sc : Scope) (N : List Str) : Prop where
 h : ∀ x ∈ N, (sc.names.lookup x = some .local ∨ sc.names.lookup x = some .cell ∨ sc.names.lookup x = some .free) ∧ (x == ("__debug__" : Str)) = false ∧ (x == ("__classdict__" : Str)) = false
structure AK (sc : Scope) (N : List Str) : Prop where
 h : ∀ x ∈ N, sc.names.lookup x = some .local
structure AG (sc : Scope) (N : List Str) : Prop where
 h : ∀ x ∈ N, sc.names.lookup x = some .globalImplicit
theorem AF.l {sc : Scope} {N : List Str} (A : AF sc N) (i : Nat) {x : Str} (e : N[i]? = some x) : sc.names.lookup x = some .local ∨ sc.names.lookup x = some .cell := (A.h x (List.mem_of_getElem? e)).1
theorem AK.k {sc : Scope} {N : List Str} (A : AK sc N) (i : Nat) {x : Str} (e : N[i]? = some x) : sc.names.lookup x = some .local := A.h x (List.mem_of_getElem? e)
theorem AG.g {sc : Scope} {N : List Str} (A : AG sc N) (i : Nat) {x : Str} (e : N[i]? = some x) : sc.names.lookup x = some .globalImplicit := A.h x (List.mem_of_getElem? e)
theorem qv {X : Cx} {x : Str} {pos : Pos} (A : AF X.env.scope X.N) (i : Nat) (e : X.N[i]? = some x) : Pr (PE X (.Name x pos) (tVar i)) :=
 have a := A.h x (List.mem_of_getElem? e)
 zakj e (a.1.elim .inl fun h => .inr (.inl h)) a.2.1 a.2.2
theorem qw {X : Cx} {x : Str} {pos : Pos} (A : AV X.env.scope X.N) (i : Nat) (e : X.N[i]? = some x) : Pr (PE X (.Name x pos) (tVar i)) :=
 have a := A.h x (List.mem_of_getElem? e)
 zakj e a.1 a.2.1 a.2.2
end L2

namespace L2
open PySem PySem.Spec PyProof.Rows
section
variable {X : Cx} {pins : List (Addr × Obj)} {σ : St} {H : Hp} {s : Shared} {d : Addr}
end
def Itd (d : Addr) (ob : Obj) (kvs : List (Key × V)) : It := ⟨fun i H => H d = some (.frz ob (.dK kvs)) ∧ i < kvs.length, fun i H x H' => H' = H ∧ ∃ kv : Key × V, kvs[i]? = some kv ∧ x = kV kv.1, fun i H => H d = some (.frz ob (.dK kvs)) ∧ kvs.length ≤ i⟩
def iDict (tl : TE) : TI := fun σ H R => tl σ H fun x H1 => ∃ d kvs, x = .ref d ∧ H1 d = some (.dK kvs) ∧ ∀ ob, R (Itd d ob kvs) (upd H1 d (.frz ob (.dK kvs)))
def Thaw (H0 : Hp) (q : Hp → Prop) (H : Hp) : Prop := ∃ d ob kvs, H d = some (.frz ob (.dK kvs)) ∧ (∀ b u, H0 d ≠ some (.frz b u)) ∧ q (upd H d (.dK kvs))
def tThaw (H0 : Hp) (t : TS) : TS := fun D σ H => t { nx := fun σ' H' => Thaw H0 (D.nx σ') H', rt := fun v H' => Thaw H0 (D.rt v) H', bk := fun σ' H' => Thaw H0 (D.bk σ') H', ct := fun σ' H' => Thaw H0 (D.ct σ') H' } σ H
def eThaw (H0 : Hp) (t : TE) : TE := fun σ H Q => t σ H fun v H' => Thaw H0 (Q v) H'
end L2

namespace L2
open PySem PySem.Spec PyProof.Rows
structure ClsFn (K : PySem.W.Frag) (C : Addr) (m : Str) (f : Addr) : Prop where
 hg : PySem.W.specialIn K (.ref C) "__getattribute__" = some (some (.builtin "type.__getattribute__"))
 rd : PySem.W.readsIn K C (.type "type") = true
 fd : PySem.W.findCls K (.ref C) (.type "type") m = some (.val (.ref f))
 kp : PySem.W.keepIn K (.ref f) = true
structure ClsOk (P : Program) (w : World) (K : PySem.W.Frag) (mg : Str → Option Value) (base : Heap) (CX : CXT) (k : Nat) (x : Str) (m : Str) (ps : List Str) (sp : Sp) : Prop where
 ex : ∃ (C f : Addr) (fd : FuncData), FnOk P w K mg base CX k f fd ps sp ∧ Binds K fd ps [] ∧ ClsFn K C m f ∧ mg x = some (.ref C)
section
variable {X : Cx} {CX : CXT} {k : Nat} {ps : List Str} {sp : Sp} {E : XK} {x m : Str} {p pos apos : Pos} {e : Expr} {es : List Expr} {t : TA}
end
def rDictC : List V → Hp → VK → Prop := fun xs H Q => ∃ (a : Addr) (kvs : List (Key × V)), xs = [.ref a] ∧ H a = some (.dK kvs) ∧ ∀ d, H d = none → Q (.ref d) (upd H d (.dK kvs))
def ViewO (v d : Addr) : HO := .ext fun h => h.IsValuesView v d
def rValues : V → List V → Hp → VK → Prop := fun x vs H Q => ∃ (a : Addr) (kvs : List (Key × V)), x = .ref a ∧ vs = [] ∧ H a = some (.dK kvs) ∧ ∀ v, H v = none → Q (.ref v) (upd H v (ViewO v a))
def rListV : List V → Hp → VK → Prop := fun xs H Q => ∃ (v a : Addr) (kvs : List (Key × V)), xs = [.ref v] ∧ H v = some (ViewO v a) ∧ H a = some (.dK kvs) ∧ ∀ l, H l = none → Q (.ref l) (upd H l (.lst (kvs.map (·.2))))
structure LDx (K : PySem.W.Frag) (x y : V) (H : Hp) (Q : VK) : Prop where
 ex : ∃ p, x = .ref p ∧ ((∃ xs i, y = .int i ∧ SqL K H p xs ∧ Atx xs i fun v => Q v H) ∨ ∃ v, DGet H p y (some v) ∧ Q v H)
def aIxLD (K : PySem.W.Frag) : R2 := fun x y H Q => LDx K x y H Q
end L2

namespace L2
open PySem PySem.W PyProof.Rows PySem.Calls
theorem zae2 {α β : Type} {R : α → β → Prop} : ∀ {xs : List α} {ys : List β}, xs.length = ys.length → (∀ (j : Nat) x y, xs[j]? = some x → ys[j]? = some y → R x y) → Paired R xs ys
 | [], [], _, _ => .nil
 | x :: xs, y :: ys, e, h => .cons (h 0 x y rfl rfl) (zae2 (by simpa using e) fun j a b h1 h2 => h (j + 1) a b (by simpa using h1) (by simpa using h2))
structure TabOk (P : Program) (w : World) (K : PySem.W.Frag) (mg : Str → Option Value) (base : Heap) (CX : CXT) (k : Nat) (ps : List Str) (sp : Addr → Sp) (A : Addr → Prop) : Prop where
 at_ : ∀ f, A f → ∃ fd : FuncData, FnOk P w K mg base CX k f fd ps (sp f) ∧ Binds K fd ps [] ∧ PySem.W.keepIn K (.ref f) = true
def tCallV (sp : Addr → Sp) (A : Addr → Prop) (E : XK) (tf : TE) (t : TA) : TE := fun σ H Q => tf σ H fun x H1 => ∃ f, x = .ref f ∧ A f ∧ t σ H1 fun vs H2 => sp f vs H2 Q E
section
variable {X : Cx}
theorem zaks {CX : CXT} {k : Nat} {ps : List Str} {sp : Addr → Sp} {A : Addr → Prop} {E : XK} {o i e : Expr} {es : List Expr} {p pos : Pos} {tf : TE} {t : TA} (T : TabOk X.prog X.w X.K X.mg X.base CX k ps sp A) (hr : Room k X.A) (hx : Passes CX X E) (hf : Pr (PE X (.Subscript o i p) tf)) (ha : Pr (PA X (e :: es) t))
  (ht : eval (.Call (.Subscript o i p) (e :: es) [] pos) X.env = (eval (.Subscript o i p) X.env >>= fun f => callWith pos f [] (backTo pos (starEach (e :: es) X.env)) (backToKw pos (keywordEach [] X.env))) := by rfl)
  (he : starEach (e :: es) X.env = (false, eval e X.env) :: starEach es X.env := by rfl) (hpl : (backTo pos (starEach es X.env)).any (·.1) = false := by rfl) :
  Pr (PE X (.Call (.Subscript o i p) (e :: es) [] pos) (tCallV sp A E tf t)) := by
 refine ⟨fun pins s σ H Q I h => ?_⟩
 rw [ht]
 refine wpAny_bind (thn (hf.h pins s σ H _ I h) fun u s1 ⟨x, H1, I1, rx, f, ex, af, q⟩ => ?_)
 subst ex
 obtain rfl : u = Value.ref f := rx
 obtain ⟨fd, F, b, kp⟩ := T.at_ f af
 refine PySem.W.callWith_K (h₀ := X.base) I.ok.mod.kin kp (thn (ha.h pos pins s1 σ H1 _ I1 q) fun us s2 ⟨vs, H2, I2, r, q2⟩ => ⟨I2.kIn, ?_⟩) he hpl
 exact zamv F hr b .nil hx I2 r (by rw [List.append_nil]; exact q2)
def ItemO (v d : Addr) : HO := .ext fun h => h.IsItemsView v d
def rItems : V → List V → Hp → VK → Prop := fun x vs H Q => ∃ (a : Addr) (kvs : List (Key × V)), x = .ref a ∧ vs = [] ∧ H a = some (.dK kvs) ∧ ∀ v, H v = none → Q (.ref v) (upd H v (ItemO v a))
theorem zamc : MtR X "dict.items" rItems := by
 intro pins s σ H x vs v us Q I rx rv h
 obtain ⟨a, kvs, rfl, rfl, ha, q⟩ := h
 cases rx
 cases rv
 obtain ⟨hz, nS, vs, kv, hd⟩ := (I.hok a _ ha : ObjOk X.prog X.w H s.heap a (.dK kvs))
 have e := Heap.get?_push_size s.heap (o := { cls := .type "dict_items", data := .fields #[.ref a] }) rfl
 refine call_meetsIn PySem.F.slot_dict_items hd.typeIs PySem.F.entry_dict_items (PySem.F.args_dict_items_1 _) (meets_dict_items (mixKind X.prog X.w) a nS) ⟨⟨vs, hd⟩, ?_⟩
 refine ⟨.ref s.heap.objs.size, _, I.laid (t' := s.toks) (fun b o q => Heap.get?_push_of_some _ q) (Nat.le_refl _) (show ObjOk X.prog X.w _ _ _ (ItemO _ a) from ⟨⟨_, e, rfl, rfl⟩, ⟨_, e⟩, fun h1 h2 ⟨o, e1, e2⟩ k => ⟨o, k o e1, e2⟩⟩), rfl, q _ (I.hok.fresh (Nat.le_refl _))⟩
theorem zakt {o : Expr} {td : TE} {apos cpos : Pos} (ho : Pr (PE X o td)) (hbase : attributeBase o "items" X.env (eval o X.env) = eval o X.env := by rfl) (hline : (apos.endLine == cpos.line) = true := by rfl) : Pr (PE X (.Call (.Attribute o "items" apos) [] [] cpos) (tBM0 X.K "dict" rItems td)) :=
 ⟨zap4 PySem.F.plainAttrs_dict PySem.F.slot_dict_items PySem.F.type_dict_items zamc ho.h hbase hline⟩
theorem zahy {pins : List (Addr × Obj)} {σ : St} {H0 : Hp} {s s' : Shared} (hex : X.ex = []) (I : Inv X pins σ H0 s) : ∀ {kvs : List (Key × V)} {as : List Addr} {H1 : Hp}, Inv X pins σ H1 s' → as.Pairwise (· < ·) → (∀ a ∈ as, s.heap.get? a = none ∧ H1 a = none) →
  Paired (fun kv a => ∃ u x, RelV (kV kv.1) u ∧ RelV kv.2 x ∧ s'.heap.get? a = some { cls := .type "tuple", data := .seq #[u, x] }) kvs as →
  ∃ H2, Inv X pins σ H2 s' ∧ Ch [] H1 H2 ∧ Paired (fun kv a => H2 a = some (.tup [kV kv.1, kv.2])) kvs as
 | _, _, H1, J, _, _, .nil => ⟨H1, J, Ch.refl _ _, .nil⟩
 | kv :: kvs, a :: as, H1, J, up, fr, .cons ⟨u, x, r1, r2, e⟩ t => by
  obtain ⟨n1, n2⟩ := fr a (by simp)
  have J2 := J.track (o := .tup [kV kv.1, kv.2]) n2 (I.alien0 hex n1) (I.alien n1).1 (I.alien n1).2.1 (I.alien n1).2.2 (show ObjOk X.prog X.w _ s'.heap a (.tup [kV kv.1, kv.2]) from ⟨by rw [sizeLine_eq]; show 2 ≤ 16777216; decide, [u, x], .cons r1 (.cons r2 .nil), ⟨_, e, rfl, _, rfl⟩⟩)
  obtain ⟨ha, up'⟩ := List.pairwise_cons.mp up
  obtain ⟨H2, J3, c, pr⟩ := zahy hex I J2 up' (fun b hb => ⟨(fr b (by simp [hb])).1, by rw [zaav (Nat.ne_of_gt (ha b hb))]; exact (fr b (by simp [hb])).2⟩) t
  exact ⟨H2, J3, (Ch.new n2 _).trans c, .cons (c.get zaah (by simp)) pr⟩
def rListI : List V → Hp → VK → Prop := fun xs H Q => ∃ (v a : Addr) (kvs : List (Key × V)), xs = [.ref v] ∧ H v = some (ItemO v a) ∧ H a = some (.dK kvs) ∧ ∀ l (as : List Addr) H', Ch [] H H' → H l = none → H' l = some (.lst (as.map V.ref)) → Paired (fun kv p => H' p = some (.tup [kV kv.1, kv.2])) kvs as → Q (.ref l) H'
theorem zai3 : ∀ as : List Addr, Vals (as.map V.ref) (as.map Value.ref)
 | [] => .nil
 | a :: as => .cons rfl (zai3 as)
theorem zaoi {P : Program} {w : World} {k : Key} {u : Value} (h : (mixKind P w).is k u = true) : RelV (kV k) u := by
 rcases zabn h with ⟨i, t, rfl, rfl⟩ | ⟨x, t, rfl, rfl⟩ <;> exact ⟨_, rfl⟩
theorem zajp (hc : X.calm = true) (hex : X.ex = []) : CallR X (.type "list") rListI := by
 intro pins s σ H xs us Q I r h
 obtain ⟨v, a, kvs, rfl, hv, ha, q⟩ := h
 obtain ⟨u, rfl, ru⟩ := vals1 r
 cases ru
 obtain ⟨hz, nS, vs, kv, hd⟩ := (I.hok a _ ha : ObjOk X.prog X.w H s.heap a (.dK kvs))
 have hvw := (I.hok v _ hv : ObjOk X.prog X.w H s.heap v (ItemO v a)).1
 have lv : vs.length = kvs.length := (Paired.length kv).symm
 obtain ⟨ep, hat⟩ := hd.dictAt
 refine PySem.W.kdx_call (I.ok.hd hc) hvw hat (by omega) fun h' tk acc c as kp e el hG ea => ?_
 have e3 : acc = (as.map Value.ref).toArray := by rw [← ea]
 rw [e3] at e
 have J := I.laid (t' := tk) kp (Nat.le_refl _) (show ObjOk X.prog X.w (upd H s.heap.objs.size (.lst (as.map V.ref))) h' _ (.lst (as.map V.ref)) from ⟨by rw [List.length_map]; omega, _, _, zai3 as, e⟩)
 have fr : ∀ b ∈ as, s.heap.get? b = none ∧ upd H s.heap.objs.size (.lst (as.map V.ref)) b = none := fun b hb => by
  have gt := hG.above b hb
  have n1 : s.heap.get? b = none := by
   cases z : s.heap.get? b with
   | none => rfl
   | some o => exact absurd (Nat.lt_trans gt (Heap.lt_size z)) (Nat.lt_irrefl _)
  exact ⟨n1, by rw [zaav (Nat.ne_of_gt gt)]; exact I.hok.fresh (Nat.le_of_lt gt)⟩
 have pr : Paired (fun kv a => ∃ u x, RelV (kV kv.1) u ∧ RelV kv.2 x ∧ h'.get? a = some { cls := .type "tuple", data := .seq #[u, x] }) kvs as := by
  refine zae2 (by rw [el]; exact lv.symm) fun j kw b hk hj => ?_
  obtain ⟨key, k, x, e1, e2, e3⟩ := hG.pairs j b hj
  obtain ⟨j1, ek⟩ := List.getElem?_eq_some_iff.mp hk
  obtain ⟨j2, ev⟩ := List.getElem?_eq_some_iff.mp e1
  have rr := zacx kv j j1 j2
  rw [ek, ev] at rr
  exact ⟨key, x, by rw [rr.1]; exact zaoi e2, rr.2, e3⟩
 obtain ⟨H2, J2, cc, pr2⟩ := zahy hex I J hG.rise fr pr
 exact ⟨.ref s.heap.objs.size, H2, J2, rfl, q _ as H2 ((Ch.new (I.hok.fresh (Nat.le_refl _)) _).trans cc) (I.hok.fresh (Nat.le_refl _)) (cc.get zaah (by simp)) pr2⟩
theorem zagd {i o : Expr} {ty td : TE} {pos : Pos} (hu : X.A.units + 1 < cLine) (hi : Pr (PE X i ty)) (ho : Pr (PE X o td)) (h1 : behindInMarks .NotIn o = false := by rfl) : Pr (PE X (.Compare i [.NotIn] [o] pos) (tDNotIn ty td)) := ⟨zapf (zahs hu hi.h ho.h) h1⟩
theorem dputS {H : Hp} {a : Addr} {kvs : List (Key × V)} {x : Str} {v : V} (e : H a = some (.dK kvs)) (hl : kvs.length < sizeLine) : DPut H a (.str x) v (upd H a (.dK (putK kvs (.inr x) v))) := DPut.k (k := .inr x) e hl
def rFind : V → List V → Hp → VK → Prop := fun x vs H Q => ∃ a b : Str, x = .str a ∧ vs = [.str b] ∧ Q (.int (Txt.find a b)) H
theorem zaoj : MtR X "str.find" rFind := by
 intro pins s σ H x vs v us Q I rx rv h
 obtain ⟨a, b, rfl, rfl, q⟩ := h
 obtain ⟨t, rfl⟩ := (show ∃ t, v = Value.str a t from rx)
 obtain ⟨u, rfl, ru⟩ := vals1 rv
 obtain ⟨t2, rfl⟩ := (show ∃ t, u = Value.str b t from ru)
 exact PySem.SC.find ⟨.int _, H, I.tok _, ⟨_, rfl⟩, q⟩
end
end L2

namespace B17
open PySem L2 PyProof PyProof.Rows
section
variable {prog : Program} {w : World} {A : Around} {R : Result → Shared → Prop} {I l S : Addr} {its : Array Value} {ns : Nat → Int} {kw : List (Str × Value)}
theorem zaqg {s : Shared} {Q : Value → Shared → Prop} {E : Value → Shared → Prop} {x M : Int} {t u : Tok} (h : Q (.bool (decide (x < M))) s) : wpAny (model prog w) A (richCompare .Lt (.int x t) (.int M u)) Q E s :=
 CmpOf.ints_lt (P := fun i v => ∃ t, v = .int ([x, M].getD i 0) t) (fun i => [x, M].getD i 0) (fun _ _ h => h) 0 1 _ _ s Q E ⟨t, rfl⟩ ⟨u, rfl⟩ h
theorem zagv : (toString "min" ++ toString ".loop" : String) = "min.loop" := by decide
theorem zaok (hh : A.handled = none) (hlI : l ≠ I) (sI : S ≠ I) (sl : S ≠ l) (hv : ∀ i v, its[i]? = some v → ∃ t, v = Value.int (ns i) t) :
  ∀ (r j : Nat) (s : Shared) (M : Int) (t u : Tok) (c : Nat), its.size - j = r → j ≤ its.size → s.heap.IsListIter I l j ∧ s.heap.IsList l its →
   s.heap.get? S = some { cls := .type "list", dict := none, data := .seq #[.int M t, .int M u] c, slots := #[] } → (∃ i, i < j ∧ ns i = M) → (∀ i, i < j → M ≤ ns i) →
   (∀ (N : Int) (t : Tok) h' tk, (∃ i, i < its.size ∧ ns i = N) → (∀ i, i < its.size → N ≤ ns i) → (∀ b o, b ≠ I → b ≠ S → s.heap.get? b = some o → h'.get? b = some o) → R (.ok (.ret (.int N t))) { s with heap := h', toks := tk }) →
   codeAny (model prog w) A (.builtin "min.loop" ⟨[.ref I, .none, .ref S], kw⟩) R s := by
 have W := Walks.list (prog := prog) (w := w) (A := A.in1) hh I l hlI its
 intro r
 induction r with
 | zero =>
  intro j s M t u c hr hj st gS ex le q
  have ej : j = its.size := by omega
  subst ej
  refine codeAny_builtin PySem.F.entry_min_loop ?_
  rw [Around.under_plainId PySem.F.plain_min_loop _]
  show wpAny (model prog w) A.in1 (seqItems? (.ref S) >>= _) _ _ s
  refine wpAny_bind (wpAny_seqItems gS rfl ?_)
  show wpAny (model prog w) A.in1 (tryCatch (pyNext (.ref I)) _ >>= _) _ _ s
  refine wpAny_bind (wpAny_tryCatch (W.done s _ _ st fun h' tk k => ?_))
  have g1 := k S _ (by simpa using sI) gS
  show wpAny (model prog w) A.in1 (updateSeq S (fun _ => #[]) >>= _) _ _ _
  refine wpAny_bind (wpAny_updateSeq g1 rfl (wpAny_bind (wpAny_letGo (wpAny_pure ?_))))
  exact q M t _ tk ex le fun b o n1 n2 e => (Heap.get?_update_other _ _ (Ne.symm n2)).trans (k b o (by simpa using n1) e)
 | succ r ih =>
  intro j s M t u c hr hj st gS ex le q
  have lt : j < its.size := by omega
  refine codeAny_builtin PySem.F.entry_min_loop ?_
  rw [Around.under_plainId PySem.F.plain_min_loop _]
  show wpAny (model prog w) A.in1 (seqItems? (.ref S) >>= _) _ _ s
  refine wpAny_bind (wpAny_seqItems gS rfl ?_)
  show wpAny (model prog w) A.in1 (tryCatch (pyNext (.ref I)) _ >>= _) _ _ s
  refine wpAny_bind (wpAny_tryCatch (W.item j s _ _ lt st fun v h' tk hP st' k => ?_))
  obtain ⟨t1, rfl⟩ := hv j v hP
  have g1 := k S _ (by simpa using sI) gS
  show wpAny (model prog w) A.in1 (tryCatch (holding [Value.int (ns j) t1, Value.int (ns j) t1] (richCompare .Lt (.int (ns j) t1) (.int M u) >>= _)) _ >>= _) _ _ _
  refine wpAny_bind (wpAny_tryCatch (wpAny_holding (wpAny_bind (zaqg ?_))))
  refine wpAny_bind (wpAny_holding (wpAny_truthy_bool ?_))
  refine wpAny_bind (wpAny_letGo (wpAny_pure ?_))
  by_cases gt : ns j < M
  ·rw [decide_eq_true gt]
   simp only [if_true]
   refine wpAny_bind (wpAny_updateSeq g1 rfl (wpAny_bind (wpAny_letGo ?_)))
   rw [zagv]
   refine wpAny_pure ⟨plainId_quiet PySem.F.plain_min_loop _, ih (j + 1) _ (ns j) t1 t1 _ (by omega) lt (W.frame _ _ _ st' fun b hb o e => ?_) (Heap.get?_update_self _ g1 rfl) ⟨j, by omega, rfl⟩ (fun i hi => ?_) fun N t2 h2 tk2 a1 a2 k2 => ?_⟩
   ·refine (Heap.get?_update_other _ _ ?_).trans e
    rintro rfl
    simp at hb
    exact hb.elim sI sl
   ·by_cases z : i = j
    ·rw [z]; exact Int.le_refl _
    ·have := le i (by omega); omega
   ·exact q N t2 h2 tk2 a1 a2 fun b o n1 n2 e => k2 b o n1 n2 ((Heap.get?_update_other _ _ (Ne.symm n2)).trans (k b o (by simpa using n1) e))
  ·rw [decide_eq_false gt]
   simp only [Bool.false_eq_true, if_false]
   refine wpAny_bind (wpAny_letGo ?_)
   rw [zagv]
   refine wpAny_pure ⟨plainId_quiet PySem.F.plain_min_loop _, ih (j + 1) _ M t u c (by omega) lt st' g1 (ex.imp fun i h => ⟨by omega, h.2⟩) (fun i hi => ?_) fun N t2 h2 tk2 a1 a2 k2 => ?_⟩
   ·by_cases z : i = j
    ·rw [z]; omega
    ·exact le i (by omega)
   ·exact q N t2 h2 tk2 a1 a2 fun b o n1 n2 e => k2 b o n1 n2 (k b o (by simpa using n1) e)
theorem zamd (hh : A.handled = none) (hlI : l ≠ I) (sI : S ≠ I) (sl : S ≠ l) (hv : ∀ i v, its[i]? = some v → ∃ t, v = Value.int (ns i) t) (hn : 0 < its.size) {s : Shared} {c : Nat} (st : s.heap.IsListIter I l 0 ∧ s.heap.IsList l its)
  (gS : s.heap.get? S = some { cls := .type "list", dict := none, data := .seq #[] c, slots := #[] })
  (q : ∀ (N : Int) (t : Tok) h' tk, (∃ i, i < its.size ∧ ns i = N) → (∀ i, i < its.size → N ≤ ns i) → (∀ b o, b ≠ I → b ≠ S → s.heap.get? b = some o → h'.get? b = some o) → R (.ok (.ret (.int N t))) { s with heap := h', toks := tk }) :
  codeAny (model prog w) A (.builtin "min.loop" ⟨[.ref I, .none, .ref S], kw⟩) R s := by
 have W := Walks.list (prog := prog) (w := w) (A := A.in1) hh I l hlI its
 refine codeAny_builtin PySem.F.entry_min_loop ?_
 rw [Around.under_plainId PySem.F.plain_min_loop _]
 show wpAny (model prog w) A.in1 (seqItems? (.ref S) >>= _) _ _ s
 refine wpAny_bind (wpAny_seqItems gS rfl ?_)
 show wpAny (model prog w) A.in1 (tryCatch (pyNext (.ref I)) _ >>= _) _ _ s
 refine wpAny_bind (wpAny_tryCatch (W.item 0 s _ _ hn st fun v h' tk hP st' k => ?_))
 obtain ⟨t1, rfl⟩ := hv 0 v hP
 have g1 := k S _ (by simpa using sI) gS
 show wpAny (model prog w) A.in1 (updateSeq S (fun _ => #[Value.int (ns 0) t1, Value.int (ns 0) t1]) >>= _) _ _ _
 refine wpAny_bind (wpAny_updateSeq g1 rfl ?_)
 rw [zagv]
 refine wpAny_pure ⟨plainId_quiet PySem.F.plain_min_loop _, zaok hh hlI sI sl hv _ 1 _ (ns 0) t1 t1 _ rfl hn (W.frame _ _ _ st' fun b hb o e => ?_) (Heap.get?_update_self _ g1 rfl) ⟨0, by omega, rfl⟩ (fun i hi => ?_) fun N t2 h2 tk2 a1 a2 k2 => ?_⟩
 ·refine (Heap.get?_update_other _ _ ?_).trans e
  rintro rfl
  simp at hb
  exact hb.elim sI sl
 ·have : i = 0 := by omega
  rw [this]; exact Int.le_refl _
 ·exact q N t2 h2 tk2 a1 a2 fun b o n1 n2 e => k2 b o n1 n2 ((Heap.get?_update_other _ _ (Ne.symm n2)).trans (k b o (by simpa using n1) e))
variable {E : Value → Shared → Prop} {s : Shared} {Q : Value → Shared → Prop} {d : Value}
theorem zame (hn : 0 < its.size) (hh : A.handled = none) (hl : s.heap.IsList l its) (hv : ∀ i v, its[i]? = some v → ∃ t, v = Value.int (ns i) t)
  (q1 : ∀ (N : Int) (t : Tok) h' tk, (∃ i, i < its.size ∧ ns i = N) → (∀ i, i < its.size → N ≤ ns i) → (∀ b o, s.heap.get? b = some o → h'.get? b = some o) → Q (.int N t) { s with heap := h', toks := tk }) :
  wpAny (model prog w) A (call (.builtin "min") [.ref l]) Q E s := by
 obtain ⟨ol, hol, _⟩ := id hl
 have hll : l < s.heap.objs.size := Heap.lt_size hol
 refine kmk_tree PySem.F.kind_min PySem.F.plain_min PySem.F.entry_min (PySem.F.args_min1 _) ?_
 show wpAny (model prog w) A.in1 (Builtin.Builtins.bindParams "min" ["key", "default"] 0 ⟨[], []⟩ >>= _) _ _ s
 refine wpAny_bind (wpAny_of_eq (show Builtin.Builtins.bindParams "min" ["key", "default"] 0 ⟨[], []⟩ = pure [none, none] from rfl) (wpAny_bind (wpAny_pure (wpAny_bind (wpAny_pyIter_list hl (wpAny_bind (wpAny_newList ?_ (Nat.zero_le _))))))))
 rw [zagv]
 refine wpAny_pure ⟨plainId_quiet PySem.F.plain_min_loop _, ?_⟩
 have hS : (s.heap.push { cls := .type "list_iterator", data := .fields #[.ref l, .int 0 0] }).objs.size = s.heap.objs.size + 1 := Heap.size_push ..
 have hlI : l ≠ s.heap.objs.size := Nat.ne_of_lt hll
 have sI : (s.heap.push { cls := .type "list_iterator", data := .fields #[.ref l, .int 0 0] }).objs.size ≠ s.heap.objs.size := by rw [hS]; omega
 have sl : (s.heap.push { cls := .type "list_iterator", data := .fields #[.ref l, .int 0 0] }).objs.size ≠ l := by rw [hS]; exact Nat.ne_of_gt (Nat.lt_succ_of_lt hll)
 have keep : ∀ b o, s.heap.get? b = some o → b ≠ s.heap.objs.size ∧ b ≠ (s.heap.push { cls := .type "list_iterator", data := .fields #[.ref l, .int 0 0] }).objs.size ∧ ((s.heap.push { cls := .type "list_iterator", data := .fields #[.ref l, .int 0 0] }).push { cls := .type "list", data := .seq #[] }).get? b = some o := fun b o e => by
  have lt := Heap.lt_size e
  refine ⟨Nat.ne_of_lt lt, by rw [hS]; exact Nat.ne_of_lt (Nat.lt_succ_of_lt lt), Heap.get?_push_of_some _ (Heap.get?_push_of_some _ e)⟩
 have st : ((s.heap.push { cls := .type "list_iterator", data := .fields #[.ref l, .int 0 0] }).push { cls := .type "list", data := .seq #[] }).IsListIter s.heap.objs.size l 0 ∧ ((s.heap.push { cls := .type "list_iterator", data := .fields #[.ref l, .int 0 0] }).push { cls := .type "list", data := .seq #[] }).IsList l its :=
  ⟨⟨_, Heap.get?_push_of_some _ (Heap.get?_push_size _ rfl), rfl, rfl⟩, (hl.push _).push _⟩
 exact zamd hh hlI sI sl hv hn st (Heap.get?_push_size _ rfl) fun N t h' tk a1 a2 k => q1 N t h' tk a1 a2 fun b o hb => k b o (keep b o hb).1 (keep b o hb).2.1 (keep b o hb).2.2
end
theorem zafp : ∀ {ns : List Int} {its : List Value}, Vals (ns.map V.int) its → ∀ (i : Nat) (v : Value), its[i]? = some v → ∃ t, v = Value.int (ns.getD i 0) t
 | [], _, .nil, i, v, h => by simp at h
 | x :: ns, _, .cons r t, 0, v, h => by obtain ⟨tk, rfl⟩ := r; exact ⟨tk, by simpa using h.symm⟩
 | x :: ns, _, .cons r t, i + 1, v, h => zafp t i v (by simpa using h)
def rMin1 : List V → Hp → VK → Prop := fun xs H Q => ∃ (p : Addr) (ns : List Int), xs = [.ref p] ∧ H p = some (.lst (ns.map V.int)) ∧ 0 < ns.length ∧ ∀ M : Int, M ∈ ns → (∀ a ∈ ns, M ≤ a) → Q (.int M) H
theorem zahz {X : Cx} (hc : X.calm = true) : CallR X (.builtin "min") rMin1 := by
 intro pins s σ H xs us Q I r h
 obtain ⟨p, ns, rfl, hp, hn, q⟩ := h
 obtain ⟨u, rfl, ru⟩ := vals1 r
 cases ru
 obtain ⟨z, its, n, rv, e⟩ := I.hok p _ hp
 have el : its.toArray.size = ns.length := by rw [List.size_toArray, ← rv.length, List.length_map]
 refine zame (its := its.toArray) (ns := fun i => ns.getD i 0) (by omega) (I.ok.hd hc) ⟨_, e, rfl, n, rfl⟩ (fun i v hv => zafp rv i v (by simpa using hv)) (fun N t h' tk a1 a2 k => ?_)
 obtain ⟨i, hi, rfl⟩ := a1
 have m : ns.getD i 0 ∈ ns := by rw [List.getD_eq_getElem?_getD, List.getElem?_eq_getElem (by omega)]; exact List.getElem_mem _
 refine ⟨.int _, H, I.kept (t' := tk) k, ⟨t, rfl⟩, q _ m fun a ha => ?_⟩
 obtain ⟨j, hj⟩ := List.getElem?_of_mem ha
 have h2 := a2 j (by have := (List.getElem?_eq_some_iff.mp hj).1; omega)
 rw [List.getD_eq_getElem?_getD (i := j), hj] at h2
 exact h2
end B17

namespace L2
open PySem PySem.Spec PyProof.Rows
def tMakeX (C : Addr) (sp : Sp) (t : TA) : TEX := fun σ H Q Ew => t σ H fun vs H1 => ∀ x dx, H1 x = none → H1 dx = none → dx ≠ x →
 sp (.ref x :: vs) (upd (upd H1 dx (.own x)) x (.ins C dx [])) (fun v H2 => v = .non ∧ Q (.ref x) H2) Ew
section
variable {X : Cx} {k : Nat} {C : Addr} {ps : List Str} {sp : Sp} {x : Str} {p pos : Pos} {e : Expr} {es : List Expr} {t : TA}
end
def rIsXs (K : PySem.W.Frag) : List V → Hp → VK → Prop := fun xs H Q => ∃ (ea C : Addr) (dx : Option Addr) (p : Addr) (cs : List V) (b : Bool), xs = [.ref ea, .ref p] ∧ H ea = some (exO ea C dx) ∧ XDx H dx ∧ H p = some (.tup cs) ∧ (∃ as : List Addr, cs = as.map V.ref ∧ XA K C ∧ PySem.W.kitAny K (.ref C) (as.map Value.ref) = some b) ∧ Q (.bl b) H
structure WK (K : PySem.W.Frag) (CR : Addr) (cs : List Addr) (co : Addr) : Prop where
 xa : XA K CR
 kr : PySem.W.kitOne K (.ref CR) (.ref CR) = some true
 kv : PySem.W.kitOne K (.ref CR) (.type "ValueError") = some true
 ks : PySem.W.kitAny K (.ref CR) (cs.map Value.ref) = some false
 ko : PySem.W.kitOne K (.ref CR) (.ref co) = some false
def tPar3 (i j l : Nat) (ta : TA) : TS := fun D σ H => ta σ H fun vs H1 => ∃ v w z, vs = [v, w, z] ∧ D.nx (((σ.set i (some v)).set j (some w)).set l (some z)) H1
end L2

namespace L2
open PySem PySem.Spec PyProof.Rows
def exN (a C : Addr) : HO := .ext fun h => ∃ t : Addr, h.get? a = some { cls := .ref C, data := .fields #[.ref t, .none, .none, .none, .bool false, .none] }
theorem zam3 {P : Program} {w : World} {H : Hp} {h : Heap} {a C t : Addr} (g : h.get? a = some { cls := .ref C, data := .fields #[.ref t, .none, .none, .none, .bool false, .none] }) : ObjOk P w H h a (exN a C) :=
 ⟨⟨t, g⟩, ⟨_, g⟩, fun g1 g2 ⟨ws, q1⟩ k => ⟨ws, k _ q1⟩⟩
structure XI (K : PySem.W.Frag) (C f : Addr) : Prop where
 xb : XB K C
 kp : PySem.W.keepIn K (.ref C) = true
 ini : PySem.W.findIn K (.ref C) "__init__" = some (some (.ref f))
 fn : PySem.W.typeIn K (.ref f) = some (.type "function")
 hd : PySem.W.hasDictIn K C = true
 mo : PySem.W.mroIn K C (.type "object") = some true
 sa : PySem.W.findIn K (.ref C) "__setattr__" = some (some (.builtin "object.__setattr__"))
section
variable {prog : Program} {w : World} {A : Around} {E : Value → Shared → Prop} {h : Heap} {g : Array GenState} {d : Drawn} {t : Nat} {os : OsState} {K : PySem.W.Frag}
variable {nm qn : Str} {C N f : Addr} {bs bm bmB : List Value} {hdct : Bool} {sn : List Str} {sub : List Value} {ab : Bool} {col : Option Bool} {dd : Option Addr} {k0 k1 k2 k3 k5 : Option Value} {B nw ini : String}
theorem zaol (F : ExcBaseFacts B nw ini bmB) (T : OwnTail h bmB bm) {us : List Value} {Q : Fin → Shared → Prop} (X : K.In h)
  (hC : h.get? C = some (excClassObj nm qn C N bs bm hdct sn sub ab col dd k0 k1 k2 k3 k5 nw)) (hi : PySem.W.findIn K (.ref C) "__init__" = some (some (.ref f))) (hf : PySem.W.typeIn K (.ref f) = some (.type "function"))
  (k : ∀ h' e, Heap.MadeExcOf h h' e (.ref C) us → wpAny (model prog w) A (call (.ref f) (.ref e :: us)) (fun r s' => r = .none ∧ Q (.done (.ret (.ref e))) s') E ⟨h', g, d, t, os⟩) (sz : us.length ≤ sizeLine) :
  wpAny (model prog w) A (Builtin.«type.__call__» ⟨.ref C :: us, []⟩) Q E ⟨h, g, d, t, os⟩ := by
 repeat (first | with_reducible refine wpAny_madeBy_exc hC ?_ | with_reducible refine wpAny_loadPart_at hC ?_ | wp_step)
 refine codeAny_call_builtin_code (Code.quiet_builtin _ F.quiet) (wpAny_check_new_subT F T hC (codeAny_exc_new_subT F T hC ?_ sz))
 let ht := h.push { cls := .type "tuple", data := .seq us.toArray }
 let oe : Obj := { cls := .ref C, data := .fields #[.ref h.objs.size, .none, .none, .none, .bool false, .none] }
 have kp : ∀ b o, h.get? b = some o → (ht.push oe).get? b = some o := fun b o q => Heap.get?_push_of_some _ (Heap.get?_push_of_some _ q)
 have X1 : K.In (ht.push oe) := X.keeps kp
 have ge : (ht.push oe).get? (h.objs.size + 1) = some oe := by
  have := Heap.get?_push_size ht (o := oe) rfl
  rwa [show ht.objs.size = h.objs.size + 1 from Heap.size_push _ _] at this
 have cc : (Value.ref C :: bm).contains (.ref C) = true := by simp
 have hC1 := kp _ _ hC
 show wpAny (model prog w) _ _ _ _ ⟨ht.push oe, g, d, t, os⟩
 unfold isInstance
 repeat (first | with_reducible refine wpAny_loadPart_at ge ?_ | (with_reducible refine wpAny_isSubtype_exc hC1 ?_; rw [cc]) | wp_step)
 show wpAny _ _ (typeLookup (.ref C) _) _ _ _
 refine (PySem.W.looks_findIn X1 hi).here ?_
 refine wpAny_holding (wpAny_bind ((PySem.W.bind_fn X1 (.ref (h.objs.size + 1)) hf).here ?_))
 refine wpAny_bind (wpAny_mono (k _ (h.objs.size + 1) ⟨kp, Heap.get?_none_of_le (Nat.le_succ _), h.objs.size, ge, Heap.get?_none_of_le (Nat.le_refl _), ?_⟩) (fun r s' ⟨e1, q1⟩ => ?_) fun _ _ x => x)
 ·exact Heap.get?_push_of_some _ (Heap.get?_push_size h rfl)
 ·subst e1
  wp_walk
  exact q1
theorem zaku (F : ExcBaseFacts B nw ini bmB) (T : OwnTail h bmB bm) {us : List Value} {Q : Value → Shared → Prop} (X : K.In h)
  (hC : h.get? C = some (excClassObj nm qn C N bs bm hdct sn sub ab col dd k0 k1 k2 k3 k5 nw)) (hi : PySem.W.findIn K (.ref C) "__init__" = some (some (.ref f))) (hf : PySem.W.typeIn K (.ref f) = some (.type "function"))
  (k : ∀ h' e, Heap.MadeExcOf h h' e (.ref C) us → wpAny (model prog w) (A.under (.builtin "type.__call__" ⟨.ref C :: us, []⟩)) (call (.ref f) (.ref e :: us)) (fun r s' => r = .none ∧ Q (.ref e) s') E ⟨h', g, d, t, os⟩) (sz : us.length ≤ sizeLine) :
  wpAny (model prog w) A (call (.ref C) us) Q E ⟨h, g, d, t, os⟩ := by
 have l1 := tc_lookup
 have l2 := tc_bind (.ref C)
 have ty : (⟨h, g, d, t, os⟩ : Shared).TypeIs (.ref C) "type" := ⟨_, hC, rfl⟩
 refine wpAny_call (codeAny_of_tree ?_)
 show wpAny _ _ (callAny (.ref C) _) _ _ _
 repeat (any_goals (first | assumption | with_reducible refine wpAny_loadPart_at hC ?_ | wp_step))
 exact ⟨rfl, codeAny_call_builtin_at (Code.quiet_builtin _ (by decide +kernel)) entry_typeCall (wpAny_check_type_call_sub hC (zaol F T X hC hi hf (fun h' e m => k h' e m) sz))⟩
theorem zajq {env : Env} {s : Shared} {x : Sem Value} {Q : Flow → Shared → Prop} (hb : bm.contains (.type "BaseException") = true) (hh : A.handled = none)
  (k : wpAny (model prog w) A x (fun v s₁ => ∃ (e : Addr) (dx : Option Addr) (vs : Array Value) (sl : Array (Option Value)), v = .ref e ∧ s₁.heap.get? C = some (excClassObj nm qn C N bs bm hdct sn sub ab col dd k0 k1 k2 k3 k5 nw) ∧ s₁.heap.get? e = some ⟨.ref C, dx, .fields vs, sl⟩ ∧ vs[1]? = some .none ∧ E (.ref e) s₁) E s) :
  wpAny (model prog w) A (raiseStmt env (some x) none) Q E s := by
 have cB : (Value.ref C :: bm).contains (.type "BaseException") = true := by rw [List.contains_cons, hb, Bool.or_true]
 unfold raiseStmt
 refine wpAny_bind (wpAny_mono k (fun v s₁ ⟨e, dx, vs, sl, e1, hC, he, hv, hE⟩ => ?_) fun _ _ x => x)
 subst e1
 obtain ⟨hp, g, d, tk, os⟩ := s₁
 repeat (first | with_reducible refine wpAny_loadPart_at he ?_ | with_reducible refine wpAny_loadPart_at hC ?_ | (with_reducible refine wpAny_isSubtype_exc hC ?_; rw [cB]) | with_reducible refine wpAny_field he rfl hv ?_ | wp_step)
 exact wpAny_raiseNew_none hh hE
end
end L2

namespace L2
open PySem PySem.Spec PyProof.Rows
open Builtin Builtin.ObjectAttr
def exM (a C dx : Addr) : HO := .ext fun h => ∃ (vs : Array Value) (sl : Array (Option Value)), h.get? a = some ⟨.ref C, some dx, .fields vs, sl⟩ ∧ vs[1]? = some .none ∧ vs[2]? = some .none
theorem zaqh {H : Hp} {a : Addr} {o : HO} (h : H a = some o) : upd H a o = H := by
 funext b; unfold upd; split
 ·rename_i e; rw [e, h]
 ·rfl
theorem zajr {h : Heap} {bmB bm : List Value} (T : OwnTail h bmB bm) (self : Value) (what : Str) : refuseLoop self what bm = refuseLoop self what bmB := by
 induction T with
 | base => rfl
 | own _ _ _ _ ih => rw [refuseLoop_ref, ih]
section
variable {X : Cx} {pins : List (Addr × Obj)} {σ : St} {H : Hp} {s : Shared} {ea C f : Addr}
theorem zakv {P : Program} {w : World} {h : Heap} (ok : HOk P w H h) (e : H ea = some (exN ea C)) : ∃ t : Addr, h.get? ea = some { cls := .ref C, data := .fields #[.ref t, .none, .none, .none, .bool false, .none] } := (ok ea _ e).1
theorem zamf {A : Around} {E : Value → Shared → Prop} {u : Value} {Q : Value → Shared → Prop} (I : Inv X pins σ H s) (he : H ea = some (exN ea C)) (xb : XB X.K C) (q : ∀ s', Inv X pins σ H s' → Q .none s') :
  wpAny (model X.prog X.w) A (call (.builtin "ValueError.__init__") [.ref ea, u]) Q E s := by
 have F := PySem.F.excBase_ValueError
 obtain ⟨t0, g1⟩ := zakv I.hok he
 obtain ⟨bm, N, nm, qn, bs, hdct, sn, sub, ab, col, dd, k0, k1, k2, k3, k5, mN, hC, hN, T⟩ := xb.obj I.kIn
 obtain ⟨h, g, d, t, os⟩ := s
 refine wpAny_call (codeAny_call_builtin F.init.plain F.initEntry (wpAny_check_init_subT F T hC g1 rfl ?_))
 wp_walk
 let hq := (h.push { cls := .type "tuple", data := .seq #[u] }).update ea (Obj.mapFields fun x => x.setIfInBounds 0 (Value.ref h.objs.size))
 have gn : hq.get? ea = some { cls := .ref C, data := .fields #[.ref h.objs.size, .none, .none, .none, .bool false, .none] } := Heap.get?_update_self _ (Heap.get?_push_of_some _ g1) rfl
 have I' := I.write (x := ea) (e := ea) (o := exN ea C) (t' := t) (h' := hq) (by rw [he]; trivial) (.inl rfl) (fun b o n q => (Heap.get?_update_other _ _ (Ne.symm n)).trans (Heap.get?_push_of_some _ q)) ⟨_, gn⟩ (zam3 gn)
 rw [zaqh he] at I'
 exact q _ I'
theorem zaom {A : Around} {E : Value → Shared → Prop} {fl : Str} {y : V} {u : Value} {Q : Unit → Shared → Prop} (hex : X.ex = []) (I : Inv X pins σ H s) (he : H ea = some (exN ea C)) (xi : XI X.K C f) (na : NoAttr X.K C fl) (ry : RelV y u)
  (q : ∀ dx s', H dx = none → dx ≠ ea → Inv X pins σ (upd (upd H ea (exM ea C dx)) dx (.xd [(fl, y)])) s' → Q () s') : wpAny (model X.prog X.w) A (setAttr (.ref ea) fl u) Q E s := by
 obtain ⟨t0, g1⟩ := zakv I.hok he
 obtain ⟨bm, N, nm, qn, bs, hdct, sn, sub, ab, col, dd, k0, k1, k2, k3, k5, mN, hC, hN, T⟩ := xi.xb.obj I.kIn
 have hdt : hdct = true := by
  obtain ⟨cd, hc, hd⟩ := PySem.W.any_some xi.hd
  unfold PySem.W.clsIn at hc
  split at hc
  case h_1 ho =>
   cases hc
   have z := (I.kIn _ _ ho).symm.trans hC
   cases z
   exact hd
  case h_2 => cases hc
 subst hdt
 have J : PySem.W.InstAt s.heap ea _ C none := ⟨g1, rfl, rfl, trivial⟩
 have SF := PySem.F.store_ValueError
 refine PySem.W.set_plain I.kIn J xi.sa ?_
 have hm := PySem.W.looks_mroIn (M := model X.prog X.w) I.kIn xi.mo
 refine codeAny_call_builtin SF.slot.plain SF.entry (@PySem.W.check_slot (model X.prog X.w) _ _ _ "object.__setattr__" "object" "__setattr__" (.ref ea) [.str fl s.toks, u] [] _ SF.kind SF.split (J.type.andThen hm) (SF.args (.ref ea) (.str fl s.toks) u) ?_)
 have L1 := PySem.W.looks_findIn (M := model X.prog X.w) I.kIn na
 have hp := SF.passes (.ref ea)
 unfold Builtin.«object.__setattr__»
 clear J
 obtain ⟨ox, eox⟩ : ∃ ox : Obj, ox = { cls := .ref C, data := .fields #[.ref t0, .none, .none, .none, .bool false, .none] } := ⟨_, rfl⟩
 rw [← eox] at g1
 have hc : ox.cls = .ref C := by rw [eox]
 have hdn : ox.dict = none := by rw [eox]
 obtain ⟨h, g, d, t, os⟩ := s
 repeat (first | rw [refuse_eq] | (rw [refuseLoop_ref, zajr T, hp]) | (with_reducible refine wpAny_loadPart_at g1 ?_; rw [hc]) | with_reducible refine wpAny_mroOf_exc hC ?_ | with_reducible refine L1.at ?_ | wp_step)
 have hdt : ox.data = .fields #[.ref t0, .none, .none, .none, .bool false, .none] := by rw [eox]
 rw [hdn, hdt]
 dsimp only
 rw [if_neg (by simp [typeHasDict])]
 let h1 := h.push { cls := .type "dict", data := .dict #[] }
 let h2 := h1.update ea fun o => { cls := o.cls, dict := some h.objs.size, data := o.data, slots := o.slots }
 have nx : ea ≠ h.objs.size := Nat.ne_of_lt (Heap.lt_size g1)
 have g2 : h1.get? ea = some ox := Heap.get?_push_of_some _ g1
 refine wpAny_bind (wpAny_alloc' (wpAny_bind (wpAny_update' g2 (wpAny_pure ?_))))
 have g3 : h2.get? ea = some { cls := .ref C, dict := some h.objs.size, data := .fields #[.ref t0, .none, .none, .none, .bool false, .none] } := by
  rw [show h2.get? ea = _ from Heap.get?_update_self _ g2 (by rw [eox]; rfl), eox]
 have g4 : h2.get? h.objs.size = some { cls := .type "dict", data := .dict #[] } := (Heap.get?_update_other _ _ nx).trans (Heap.get?_push_at rfl rfl)
 have n2 : h2.Ns h.objs.size (fun _ => none) := ⟨_, #[], _, g4, rfl, fun e he => absurd he (by simp), fun _ => rfl⟩
 show wpAny _ _ (storeInDict h.objs.size _ fl u) _ _ ⟨h2, g, d, t + 1, os⟩
 unfold storeInDict newKeyGuard
 refine wpAny_bind (wpAny_pure (wpAny_bind (wpAny_nsSet1 (Heap.Ns1.of_empty n2) fun h' n' sb => ?_)))
 obtain ⟨oD, esD, epD, hoD, hdD, hcD⟩ := n'.count (Within.cons fl u Within.nil)
 refine wpAny_bind (wpAny_lookBehind hoD (by rw [hdD]; exact pastItsLine_dict (Nat.le_trans hcD (by rw [List.length_cons, List.length_nil, sizeLine_eq]; omega))) ?_)
 wp_walk
 have I1 : Inv X pins σ H ⟨h1, g, d, t, os⟩ := I.kept (t' := t) fun b o q => Heap.get?_push_of_some _ q
 have I2 := I1.write (x := ea) (e := ea) (o := exM ea C h.objs.size) (t' := t) (h' := h2) (by rw [he]; trivial) (.inl rfl) (fun b o n q => (Heap.get?_update_other _ _ (Ne.symm n)).trans q) ⟨_, g3⟩ ⟨⟨_, _, g3, rfl, rfl⟩, ⟨_, g3⟩, fun a1 a2 ⟨ws, sl, q1, q2⟩ k => ⟨ws, sl, k _ q1, q2⟩⟩
 have fr : H h.objs.size = none := I.hok.fresh (Nat.le_refl _)
 have fr2 : (upd H ea (exM ea C h.objs.size)) h.objs.size = none := by rw [zaav (Ne.symm nx)]; exact fr
 obtain ⟨f0, f1, f2, f3, f4, f5⟩ := I.fpOk (H' := upd H ea (exM ea C h.objs.size)) (b := h.objs.size) (Nat.le_refl _) fr2
 have I3 := I2.turned (it := h.objs.size) (h' := h') (t' := t + 1 + 1) (fun b o hb e => (sb.2 b hb).trans e) f0 f1 f3 f4 f5
 have I4 := I3.track (a := h.objs.size) (o := .xd [(fl, y)]) f0 (I.alien0 hex (Heap.get?_none_of_le (Nat.le_refl _))) f1 f4 f5 ⟨_, n', fun z => by
  show RelO (List.lookup z [(fl, y)]) (if z = fl then some u else none)
  by_cases e : z = fl
  ·subst e; simp only [List.lookup, beq_self_eq_true, if_true]; exact ry
  ·have e' : (z == fl) = false := beq_eq_false_iff_ne.mpr e
   simp only [List.lookup, e', if_neg e]; trivial⟩
 exact q _ _ fr (Ne.symm nx) I4
end
end L2

namespace L2
open PySem PySem.Spec PyProof.Rows
structure ClsIni (K : PySem.W.Frag) (C : Addr) : Prop where
 hg : PySem.W.specialIn K (.ref C) "__getattribute__" = some (some (.builtin "type.__getattribute__"))
 rd : PySem.W.readsIn K C (.type "type") = true
 fd : PySem.W.findCls K (.ref C) (.type "type") "__init__" = some (.val (.builtin "ValueError.__init__"))
def tBinit (K : PySem.W.Frag) (t : TA) : TE := fun σ H Q => t σ H fun vs H1 => ∃ ea C v, vs = [.ref ea, v] ∧ H1 ea = some (exN ea C) ∧ XB K C ∧ Q .non H1
def sFldX (K : PySem.W.Frag) (ta tv : TE) (fl : Str) : TS := fun D σ H => tv σ H fun y H1 => ta σ H1 fun x H2 => ∃ ea C f, x = .ref ea ∧ H2 ea = some (exN ea C) ∧ XI K C f ∧ NoAttr K C fl ∧
 ∀ dx, H2 dx = none → dx ≠ ea → D.nx σ (upd (upd H2 ea (exM ea C dx)) dx (.xd [(fl, y)]))
section
variable {X : Cx} {x : Str} {p pos apos pos' : Pos} {e o value : Expr} {es : List Expr} {t : TA} {ta tv : TE} {fl : Str}
theorem zakw {CB : Addr} {pl : Sem Bool} (hm : X.mg x = some (.ref CB)) (ci : ClsIni X.K CB) (hg : Gl X x) (ha : Pr (PA X (e :: es) t)) (hdb : (x == ("__debug__" : Str)) = false := by decide)
  (hst : starEach (e :: es) X.env = (false, eval e X.env) :: starEach es X.env := by rfl) (hpl : (backTo pos (starEach es X.env)).any (·.1) = false := by rfl)
  (ht : eval (.Call (.Attribute (.Name x p) "__init__" apos) (e :: es) [] pos) X.env = (do
   let ov ← eval (.Name x p) X.env
   standAt apos.atName
   let (f, first) ← holding [ov] (getMethod ov "__init__" pl)
   callWith pos f first (backTo pos (starEach (e :: es) X.env)) (backToKw pos (keywordEach [] X.env))) := by rfl) :
  Pr (PE X (.Call (.Attribute (.Name x p) "__init__" apos) (e :: es) [] pos) (tBinit X.K t)) := by
 refine ⟨?_⟩
 intro pins s σ H Q I h
 have hn : PE X (.Name x p) (fun σ H Q => Q (.ref CB) H) := zajv (v := .ref CB) hg hm rfl hdb
 refine PySem.W.methodCall_KW (pl := pl) (thn (hn pins s σ H (fun v H' => v = .ref CB ∧ H' = H) I ⟨rfl, rfl⟩) fun u s1 ⟨v, H1, I1, rx, e1, e2⟩ => ?_) ht
 subst e1
 subst e2
 obtain rfl : u = Value.ref CB := rx
 refine PySem.W.method_cls I1.kIn ci.hg (PySem.W.cls_value I1.kIn ci.rd ci.fd rfl ?_)
 refine PyProof.Rows.callWith_builtin1 (thn (ha.h pos pins _ σ H1 _ (I1.tok _) h) fun us s2 ⟨vs, H2, I2, r, ea, C, v, e2, he, xb, q2⟩ => ?_) hst hpl
 subst e2
 obtain ⟨u1, u2, rfl, r1, r2⟩ := vals2 r
 obtain rfl : u1 = Value.ref ea := r1
 exact zamf I2 he xb fun s' I' => ⟨.non, H2, I', rfl, q2⟩
theorem zamg (hex : X.ex = []) (ha : Pr (PE X o ta)) (hv : Pr (PE X value tv)) (hs : swapsWith value (some (.Attribute o fl pos')) pos.line X.env = pure false := by rfl) : Pr (PS X (.Assign [.Attribute o fl pos'] value pos) (sFldX X.K ta tv fl)) := by
 refine ⟨?_⟩
 intro pins s σ H D I h
 refine plainObj_wpAny_Assign_Attribute (thn (hv.h pins s σ H _ I h) fun u s1 ⟨y, H1, I1, ry, q⟩ => thn (ha.h pins s1 σ H1 _ I1 q) fun ov s2 ⟨x, H2, I2, rx, ea, C, f, ex, he, xi, na, q2⟩ => ?_) hs
 subst ex
 obtain rfl : ov = Value.ref ea := rx
 exact zaom hex I2 he xi na ry fun dx s' n1 n2 I' => ⟨σ, _, I', q2 dx n1 n2⟩
end
def rmv (H : Hp) (a : Addr) : Hp := fun b => if b = a then none else H b
theorem zafq {H : Hp} {a b : Addr} (h : b ≠ a) : rmv H a b = H b := by unfold rmv; rw [if_neg h]
section
variable {X : Cx} {pins : List (Addr × Obj)} {σ : St} {H : Hp} {s : Shared}
theorem Inv.untrack {a : Addr} {φ : Heap → Prop} (I : Inv X pins σ H s) (ha : H a = some (.ext φ)) (n0 : X.s₀.heap.get? a = none) : Inv X pins σ (rmv H a) s := by
 have nt : ∀ b xs, H b = some (.tup xs) → b ≠ a := fun b xs e z => by rw [z, ha] at e; cases e
 have no : ∀ b y, H b = some (.own y) → b ≠ a := fun b xs e z => by rw [z, ha] at e; cases e
 refine ⟨I.ok, I.os, I.bare, ⟨I.base.keep, I.base.slot, fun b o' e n hx => ?_, I.base.there, fun b xs e => ?_, fun b o' u e => ?_, fun b ps e => ?_⟩, I.loc, I.cell, ?_, fun x c e => ?_, fun p hp => ?_, fun b u e => ?_, I.len⟩
 ·unfold rmv; split
  ·rfl
  ·exact I.base.free b o' e n hx
 ·have q := I.base.tups b xs e
  rw [zafq (nt b xs q)]; exact q
 ·have q := I.base.frzs b o' u e
  rw [zafq (fun z => by rw [z, ha] at q; cases q)]; exact q
 ·obtain ⟨more, q⟩ := I.base.tbls b ps e
  exact ⟨more, by rw [zafq (fun z => by rw [z, ha] at q; cases q)]; exact q⟩
 ·unfold rmv; split
  ·rfl
  ·exact I.free
 ·unfold rmv; split
  ·rfl
  ·exact I.freeC x c e
 ·obtain ⟨q1, q2, q3⟩ := I.pin p hp
  refine ⟨q1, ?_, q3⟩
  unfold rmv; split
  ·rfl
  ·exact q2
 ·have hb : b ≠ a := fun z => by rw [z] at e; unfold rmv at e; rw [if_pos rfl] at e; cases e
  rw [zafq hb] at e
  exact (I.hok b u e).stay (fun _ _ _ q => q) (fun c q => by rw [zafq (no c _ q)]; exact q) fun c xs q => by rw [zafq (nt c _ q)]; exact q
end
section
variable {P : Program} {w : World} {K : PySem.W.Frag} {mg : Str → Option Value} {base : Heap} {N : List Str} {qual : Str} {scope : Scope} {f : Addr} {cd : Value} {A : Around} {outer : List Env} {s₀ : Shared} {H₀ : Hp} {E : XK}
theorem zarq {pins : List (Addr × Obj)} {σ : St} {H : Hp} {s : Shared} {e C : Addr} {dx : Option Addr} {vs : Array Value} {sl : Array (Option Value)} (I : Inv (cxE P w K mg base N qual scope f cd A outer s₀ H₀ E) pins σ H s) (ge : s.heap.get? e = some ⟨.ref C, dx, .fields vs, sl⟩) (v1 : vs[1]? = some .none) (v2 : vs[2]? = some .none)
  (n0 : s₀.heap.get? e = none) (nH : H e = none) (q : E (.ref C) dx H) : (cxE P w K mg base N qual scope f cd A outer s₀ H₀ E).xe (.ref e) s := by
 show wpAny (model P w) _ (leaving _ (.ref e)) _ _ _
 unfold leaving
 refine wpAny_bind (zal7 I.ok.frames I.stack rfl ge ⟨rfl, rfl⟩ rfl v1 v2 fun h2 T kb fl nT => zagt fl fun h3 kb3 fl3 => ?_)
 have k3 : KB [e, T] (frs (envOfC qual scope s₀.heap.objs.size f cd :: outer)) s.heap h3 := kb.trans kb3.fs
 have m0 : ∀ b ∈ [e, T], s₀.heap.get? b = none := fun b hb => by
  simp only [List.mem_cons, List.not_mem_nil, or_false] at hb
  rcases hb with rfl | rfl
  ·exact n0
  ·exact I.alien0 rfl nT
 have mH : ∀ b ∈ [e, T], H b = none := fun b hb => by
  simp only [List.mem_cons, List.not_mem_nil, or_false] at hb
  rcases hb with rfl | rfl
  ·exact nH
  ·exact I.hok.alien nT
 exact ⟨e, C, T, dx, H, rfl, I.os, I.bare, I.base.fly k3 m0 (zam0 I), I.hok.fly k3 mH I.stkFree, fl3, n0, m0 T (by simp), nH, mH T (by simp), q⟩
end
def spXI (C : Addr) (fl : Str) : Sp := fun vs H Q _ => ∃ ea v, vs = [.ref ea, v] ∧ H ea = some (exN ea C) ∧ ∀ dx, H dx = none → dx ≠ ea → Q .non (upd (upd H ea (exM ea C dx)) dx (.xd [(fl, v)]))
structure RaiseOk (P : Program) (w : World) (K : PySem.W.Frag) (mg : Str → Option Value) (base : Heap) (k : Nat) (x : Str) (C : Addr) (fl : Str) : Prop where
 ex : ∃ (f : Addr) (fd : FuncData) (ps : List Str), FnOk P w K mg base CX0 k f fd ps (spXI C fl) ∧ Binds K fd ps [] ∧ XI K C f ∧ mg x = some (.ref C)
theorem RaiseOk.mono {P : Program} {w : World} {K : PySem.W.Frag} {mg : Str → Option Value} {base : Heap} {j k : Nat} {x : Str} {C : Addr} {fl : Str} (D : RaiseOk P w K mg base j x C fl) (h : j ≤ k) : RaiseOk P w K mg base k x C fl := by
 obtain ⟨f, fd, ps, F, b⟩ := D.ex
 exact ⟨f, fd, ps, F.mono h, b⟩
def tRaiseI (C : Addr) (fl : Str) (E : XK) (t : TA) : TS := fun _ σ H => t σ H fun vs H1 => ∃ v, vs = [v] ∧ ∀ dx, H1 dx = none → E (.ref C) (some dx) (upd H1 dx (.xd [(fl, v)]))
section
variable {P : Program} {w : World} {K : PySem.W.Frag} {mg : Str → Option Value} {base : Heap} {N : List Str} {qual : Str} {scope : Scope} {f : Addr} {cd : Value} {A : Around} {outer : List Env} {s₀ : Shared} {H₀ : Hp} {E : XK}
theorem zadz {x fl : Str} {C : Addr} {k : Nat} {np cpos pos : Pos} {e₀ : Expr} {ta : TA} (D : RaiseOk P w K mg base k x C fl) (hr : Room (k + 1) (cxE P w K mg base N qual scope f cd A outer s₀ H₀ E).A) (hg : Gl (cxE P w K mg base N qual scope f cd A outer s₀ H₀ E) x)
  (ha : Pr (PA (cxE P w K mg base N qual scope f cd A outer s₀ H₀ E) [e₀] ta)) (hdb : (x == ("__debug__" : Str)) = false := by decide)
  (he : starEach [e₀] (cxE P w K mg base N qual scope f cd A outer s₀ H₀ E).env = [(false, eval e₀ (cxE P w K mg base N qual scope f cd A outer s₀ H₀ E).env)] := by rfl) :
  Pr (PS (cxE P w K mg base N qual scope f cd A outer s₀ H₀ E) (.Raise (some (.Call (.Name x np) [e₀] [] cpos)) none pos) (tRaiseI C fl E ta)) := by
 refine ⟨?_⟩
 intro pins s σ H D' I h
 obtain ⟨fi, fd, ps, Fi, hb, xi, hm⟩ := D.ex
 have F := PySem.F.excBase_ValueError
 obtain ⟨bm, Nc, nm, qn, bs, hdct, sn, sub, ab, col, dd, k0, k1, k2, k3, k5, mN, hC, hN, T⟩ := xi.xb.obj I.mod.kin
 rw [arm_exec_Raise]
 refine wpAny_bind (wpAny_standAt (zajq (C := C) (nm := nm) (qn := qn) (N := Nc) (bs := bs) (bm := bm) (hdct := hdct) (sn := sn) (sub := sub) (ab := ab) (col := col) (dd := dd) (k0 := k0) (k1 := k1) (k2 := k2) (k3 := k3) (k5 := k5) (nw := "ValueError.__new__") (T.hasType F.hasBase) (I.ok.hd rfl) ?_))
 refine wpAny_bind (wpAny_mono (wpAny_Call_ofName (zaef I hg hm ?_ hdb)) (fun v s₃ h₃ => wpAny_bind (wpAny_standAt (wpAny_pure h₃))) fun _ _ x => x)
 refine PySem.W.callWith_K (h₀ := base) I.mod.kin xi.kp (thn (ha.h cpos pins s σ H _ I h) fun us s1 ⟨vs, H1, I1, r, v, e1, q1⟩ => ⟨I1.kIn, ?_⟩) he rfl
 subst e1
 obtain ⟨u, rfl, ru⟩ := vals1 r
 obtain ⟨hp, g, d, tk, os⟩ := s1
 refine zaku F (T.keeps I1.bk) I1.kIn (I1.bk _ _ hC) xi.ini xi.fn (fun h' e m => ?_) (by show 1 ≤ sizeLine; rw [sizeLine_eq]; decide)
 have I2 : Inv (cxE P w K mg base N qual scope f cd A outer s₀ H₀ E) pins σ H1 ⟨h', g, d, tk, os⟩ := I1.kept (t' := tk) m.keeps
 have n1 : H1 e = none := I1.hok.alien m.new
 have n0 : s₀.heap.get? e = none := I1.alien0 rfl m.new
 obtain ⟨a1, a2, a3⟩ := I1.alien m.new
 obtain ⟨t, ge, _, _⟩ := m.there
 have I3 := I2.track (a := e) (o := exN e C) n1 n0 a1 a2 a3 (zam3 ge)
 have hq : spXI C fl [.ref e, v] (upd H1 e (exN e C)) (fun y H2 => y = .non ∧ ∃ dx, H1 dx = none ∧ dx ≠ e ∧ H2 = upd (upd (upd H1 e (exN e C)) e (exM e C dx)) dx (.xd [(fl, v)])) E0 :=
  ⟨e, v, rfl, zaah, fun dx n ne => ⟨rfl, dx, by rwa [zaav ne] at n, ne, rfl⟩⟩
 have r2 : Vals [V.ref e, v] [Value.ref e, u] := .cons rfl (.cons ru .nil)
 have hl : ([Value.ref e, u] ++ []).length = ps.length := Fi.len _ _ _ _ hq
 have bt := hb _ [Value.ref e, u] I3.kIn hl
 rw [List.append_nil] at bt
 refine wpAny_call (codeAny_mono (Fi.run _ (cxE P w K mg base N qual scope f cd A outer s₀ H₀ E).stack _ _ ⟨[Value.ref e, u], []⟩ [Value.ref e, u] _ _ _ (hr.make C [u] []) (I3.env0.make C [u] []) bt r2 hq) fun r s' hq' => ?_)
 cases r with
 | error z => exact False.elim hq'
 | ok z =>
  cases z with
  | ret u' =>
   obtain ⟨y, H', I4, ry, ey, dx, nd, ne, eH⟩ := I3.after hq'
   subst ey
   obtain rfl : u' = Value.none := ry
   have hE : H' e = some (exM e C dx) := by rw [eH, zaav (Ne.symm ne), zaah]
   obtain ⟨vs', sl, ge', v1, v2⟩ := (I4.hok e _ hE).1
   have I5 := I4.untrack hE n0
   have e5 : rmv H' e = upd H1 dx (.xd [(fl, v)]) := by
    funext b
    by_cases hb : b = e
    ·subst hb
     unfold rmv
     rw [if_pos rfl, zaav (Ne.symm ne), n1]
    ·rw [zafq hb, eH]
     by_cases hd : b = dx
     ·subst hd; rw [zaah, zaah]
     ·rw [zaav hd, zaav hd, zaav hb, zaav hb]
   rw [e5] at I5
   exact ⟨rfl, ⟨e, some dx, vs', sl, rfl, I4.bk _ _ hC, ge', v1, zarq I5 ge' v1 v2 n0 (by rw [zaav (Ne.symm ne)]; exact n1) (q1 dx nd)⟩⟩
  | next => exact False.elim hq'
  | brk => exact False.elim hq'
  | cont => exact False.elim hq'
end
end L2

namespace L2
open PySem PySem.Spec PyProof.Rows PySem.W
section
variable {prog : Program} {w : World} {A : Around} {E : Value → Shared → Prop} {s : Shared} {K : Frag} {x C : Addr} {ox : Obj} {od : Option Obj} {fl : Str}
theorem zakx {v : Value} {Q : Value → Shared → Prop} (X : K.In s.heap) (xa : XA K C) (I : InstAt s.heap x ox C od) (hf : findObj K C od fl = some (.value v)) (hv : handedIn v = true) (h : Q v { s with toks := s.toks + 1 }) : wpAny (model prog w) A (getAttr (.ref x) fl true) Q E s := by
 obtain ⟨bm, N, nm, qn, bs, hdct, sn, sub, ab, col, dd, k0, k1, k2, k3, k5, mN, hC, hN, T⟩ := xa.xc.obj X
 obtain ⟨hh, g, d, t, os⟩ := s
 have L0 := I.type (M := model prog w)
 have L1 := looks_findIn (M := model prog w) X xa.ga
 have L2 := looks_findIn (M := model prog w) X xa.gt
 have L3 := looks_find (M := model prog w) X I hf
 have f3 := PySem.F.attr_ValueError.ga.bind (.ref x)
 unfold getAttr getAttrBy
 refine wpAny_bind (wpAny_mkText (wpAny_holding (wpAny_bind (L0.at (wpAny_bind (L1.at ?_))))))
 dsimp only
 have b0 : (Value.builtin "BaseException.__getattribute__" == Value.builtin "object.__getattribute__") = false := by decide +kernel
 rw [if_neg (by rw [b0, Bool.and_false]; exact Bool.false_ne_true)]
 unfold getAttrByItsOwn hookBefore
 rw [if_pos (show onTheHeap (Value.ref C) = true from rfl)]
 refine wpAny_bind (L2.at (wpAny_bind (wpAny_attempt (wpAny_holding ?_))))
 unfold callGetattribute
 rw [if_neg (by decide +kernel)]
 unfold boundAndCalled
 refine wpAny_bind (wpAny_of_eq f3 ?_)
 refine wpAny_call (codeAny_call_builtin PySem.F.attr_ValueError.ga.plain PySem.F.entry_bexc_ga ?_)
 have y1 : builtinKind "BaseException.__getattribute__" = some .slot := by decide +kernel
 have y2 : splitId "BaseException.__getattribute__" = some ("BaseException", "__getattribute__") := by decide +kernel
 have y3 : (Value.ref C :: bm).contains (.type "BaseException") = true := by rw [List.contains_cons, T.hasType PySem.F.excBase_ValueError.hasBase, Bool.or_true]
 have y4 := PySem.F.args_bexc_ga (.ref x) (.str fl t)
 have gx := I.at_
 have gc := I.cls
 simp only [checkBuiltinCall, y1, y2]
 refine wpAny_bind ?_
 unfold isInstance
 repeat (first
  | with_reducible refine wpAny_bind (L3.at ?_)
  | with_reducible refine L3.at ?_
  | (with_reducible refine wpAny_loadPart_at gx ?_; rw [gc])
  | (with_reducible refine wpAny_isSubtype_exc hC ?_; rw [y3])
  | wp_step)
 exact handed_on hv h
end
def tFldX (K : PySem.W.Frag) (ta : TE) (f : Str) : TE := fun σ H Q => ta σ H fun x H1 => ∃ ea C dx fs v, x = .ref ea ∧ H1 ea = some (exO ea C (some dx)) ∧ H1 dx = some (.xd fs) ∧ XA K C ∧ hasDictIn K C = true ∧ NoAttr K C f ∧ fs.lookup f = some v ∧ Q v H1
theorem zamh {X : Cx} {e : Expr} {f : Str} {pos : Pos} {ta : TE} (he : Pr (PE X e ta)) (hb : attributeBase e f X.env (eval e X.env) = eval e X.env := by rfl) : Pr (PE X (.Attribute e f pos) (tFldX X.K ta f)) := by
 refine ⟨?_⟩
 intro pins s σ H Q I h
 refine zaj5 hb (thn (he.h pins s σ H _ I h) fun u s1 ⟨x, H1, I1, rx, ea, C, dx, fs, v, ex, ea1, hd, xa, hh, na, l, q⟩ => ?_)
 subst ex
 obtain rfl : u = Value.ref ea := rx
 obtain ⟨o, vs, g1, ⟨g2, g3⟩, g4, _⟩ := zaod I1.hok ea1
 obtain ⟨mA, ns, rel⟩ := (I1.hok dx _ hd : ObjOk X.prog X.w H1 s1.heap dx (.xd fs))
 obtain ⟨od, go, hl⟩ := zahg ns
 have J : InstAt s1.heap ea o C (some od) := ⟨g1, g2, by unfold notCls; rw [g4], by rw [g3]; exact go⟩
 have r1 := rel f
 rw [l] at r1
 cases hv : mA f with
 | none => rw [hv] at r1; exact r1.elim
 | some u' =>
  rw [hv] at r1
  exact zakx I1.kIn xa J (findObj_own hh na rfl (by rw [hl, hv])) (zahh r1) ⟨v, H1, I1.tok _, r1, q⟩
end L2

set_option maxHeartbeats 4000000
namespace B17
open PySem L2
abbrev Vs (sc : Scope) (x : Str) : Prop := sc.names.lookup x = some NameKind.local ∨ sc.names.lookup x = some NameKind.cell ∨ sc.names.lookup x = some NameKind.free
abbrev Lc (sc : Scope) (x : Str) : Prop := sc.names.lookup x = some NameKind.local ∨ sc.names.lookup x = some NameKind.cell
abbrev Gi (sc : Scope) (x : Str) : Prop := sc.names.lookup x = some NameKind.globalImplicit
abbrev Nd (x : Str) : Prop := (x == ("__debug__" : Str)) = false
abbrev Nc (x : Str) : Prop := (x == ("__classdict__" : Str)) = false
local macro_rules | `(tactic| walk_at "few") => `(tactic| (with_reducible show (List.length (α := Str × V) _) < 1000); first | exact (by decide : 0 < 1000) | exact (by decide : 1 < 1000) | exact (by decide : 2 < 1000) | exact (by decide : 3 < 1000) | exact (by decide : 4 < 1000) | exact (by decide : 5 < 1000) | exact (by decide : 6 < 1000))
local macro_rules | `(tactic| walk_at "get") => `(tactic| first
 | with_reducible assumption
 | exact zaah
 | (apply zaa6; (focus with_reducible assumption); (focus walk_at "get"))
 | (apply zabc; (focus walk_at "ne"); (focus walk_at "get"))
 | (apply Ch.get; (focus with_reducible assumption); (focus walk_at "get"); (focus walk_at "notin")))
local macro_rules | `(tactic| walk_at "ne") => `(tactic| first | with_reducible assumption | (apply Ne.symm; with_reducible assumption) | (apply zacc; (focus with_reducible assumption); (focus with_reducible assumption); (focus (intro z; cases z))))
local macro_rules | `(tactic| walk_at "notin") => `(tactic| first | exact List.not_mem_nil | (simp only [List.mem_cons, List.not_mem_nil, or_false, not_or, not_false_eq_true]; first | walk_at "ne" | trivial))
local macro_rules | `(tactic| walk_at "scr") => `(tactic| first
 | with_reducible assumption
 | (apply Scr.ch; (focus with_reducible assumption); (focus with_reducible assumption); (focus walk_at "ch"))
 | (apply Scr.same; (focus with_reducible assumption); (focus walk_at "ch")))
local macro_rules | `(tactic| walk_at "ch") => `(tactic| first
 | with_reducible assumption
 | exact Ch.refl _ _
 | exact Ch.put
 | (apply Ch.new; with_reducible assumption)
 | (apply Ch.wk; with_reducible assumption)
 | (apply Ch.own; (focus with_reducible assumption); (focus walk_at "ch"))
 | (apply Ch.trans; (rotate_left; focus with_reducible assumption); (focus walk_at "ch"))
 | (apply Ch.trans; (rotate_left; focus (apply Ch.wk; with_reducible assumption)); (focus walk_at "ch"))
 | (apply Ch.trans; (rotate_left; focus exact Ch.put); (focus walk_at "ch"))
 | (apply Ch.trans; (rotate_left; focus (apply Ch.new; with_reducible assumption)); (focus walk_at "ch")))
local macro_rules | `(tactic| walk_at "sq") => `(tactic| first
 | (apply Scr.sq; walk_at "scr")
 | (apply Exists.intro; walk_at "sq")
 | (refine (‹∀ H : Hp, SqT _ H _ _›) _)
 | (apply SqL.of; walk_at "get")
 | (apply SqT.of; walk_at "get")
 | (apply Or.inl; apply Scr.sq; walk_at "scr")
 | (apply Or.inl; apply SqL.of; walk_at "get")
 | (apply Or.inr; apply SqT.of; walk_at "get"))
local macro_rules | `(tactic| walk_at "arith") => `(tactic| first
 | omega
 | (simp only [List.length_map, List.length_cons, List.length_nil, List.length_append, List.length_singleton, List.length_replicate]; done)
 | ((try dsimp only); (try simp only [List.length_map, List.length_cons, List.length_nil, List.length_append, List.length_singleton, List.length_replicate, sizeLine_eq]); omega)
 | ((try dsimp only); (try simp only [List.length_map, List.length_cons, List.length_nil, List.length_append, List.length_singleton, List.length_replicate, sizeLine_eq] at *); omega))
local macro_rules | `(tactic| walk_at "cond") => `(tactic| first
 | (refine Or.inl (And.intro ?_ ?_) <;> walk_at "arith")
 | (refine Or.inr (And.intro ?_ ?_) <;> walk_at "arith")
 | (refine And.intro ?_ (And.intro ?_ ?_) <;> walk_at "arith")
 | (refine And.intro ?_ ?_ <;> walk_at "arith"))
local macro_rules | `(tactic| walk_at "len") => `(tactic| first
 | with_reducible assumption
 | exact zan4
 | (apply len_slice; walk_at "len")
 | (apply len_app; (focus walk_at "len"); (focus walk_at "len"))
 | exact Nat.le_refl _)
local macro_rules | `(tactic| walk_at "lens") => `(tactic| first
 | (apply zan5; (focus walk_at "len"); (focus walk_at "len"); (focus first | decide +kernel | walk_at "arith"))
 | (apply len_top; (focus walk_at "len"); (focus first | decide +kernel | walk_at "arith")))
local macro_rules | `(tactic| walk_at "side") => `(tactic| first
 | with_reducible rfl | with_reducible assumption | walk_at "sq" | walk_at "get" | walk_at "scr" | walk_at "ch" | walk_at "ty" | exact TyOf.int _ | exact TyOf.str _ | (apply TyOf.tup; walk_at "get") | (apply TyOf.lst; walk_at "get") | exact TyOf.bl _ | exact TyOf.non | walk_at "few" | decide | omega | walk_at "arith" | walk_at "cond" | ((try simp only [List.length_map]); with_reducible assumption) | walk_at "lens" | (apply Or.inr; with_reducible assumption) | walk_at "user" | exact rfl | assumption)
local macro_rules | `(tactic| walk_at "ty") => `(tactic| (refine Or.inl (And.intro rfl ?_); apply Exists.intro; walk_at "sq"))
local macro_rules | `(tactic| walk_at "user") => `(tactic| fail)
local macro_rules | `(tactic| walk_at "rd1") => `(tactic| first
 | apply Exists.intro
 | (refine And.intro rfl ?_)
 | (refine And.intro (show V.str _ = L2.kV (Sum.inr _) from rfl) ?_)
 | (refine And.intro (show V.int _ = L2.kV (Sum.inl _) from rfl) ?_)
 | (refine And.intro (L2.zal0 _ _) ?_)
 | (apply And.intro; (focus (walk_at "side"; done)))
 | apply Atx.head
 | (apply Atx.of; (focus first | exact rfl | with_reducible assumption | ((try simp only [List.length_map]); with_reducible assumption)))
 | (apply Or.inl; apply Exists.intro; (refine And.intro rfl ?_))
 | (apply Or.inr; apply Exists.intro; (refine And.intro rfl ?_))
 | (apply Or.inl; apply And.intro; (focus walk_at "sq"))
 | (apply Or.inr; apply And.intro; (focus walk_at "sq"))
 | (intro _)
 | walk_at "fin")
local macro_rules | `(tactic| walk_at "fin") => `(tactic| first | exact rfl | (walk_at "get"; done))
local macro_rules | `(tactic| walk_at "rd") => `(tactic| repeat walk_at "rd1")
section
theorem zace {H : Hp} {a : Addr} {kvs : List (Key × V)} {x : Str} (e : H a = some (.dK kvs)) (h : valV kvs (.inr x) = none) : DGet H a (.str x) none := h ▸ DGet.k (k := .inr x) e
theorem zafr {H : Hp} {a : Addr} {kvs : List (Key × V)} (e : H a = some (.dK kvs)) : IsD H a := .inl ⟨kvs, .inl e⟩
local macro_rules | `(tactic| walk_at "user") => `(tactic| first
 | (apply zafr; walk_at "get")
 | (apply zab9; (focus walk_at "get"); (focus with_reducible assumption))
 | (apply zace; (focus walk_at "get"); (focus with_reducible assumption)))
def top (i : Nat) : Stmt := PySem.Challenge.pw_bitfloor_k09_widths.main.body.getD i (.Pass ⟨0, 0, 0, 0⟩)
theorem chFree {H H' : Hp} (c : Ch [] H H') {r : Addr} (h : H' r = none) : H r = none := by
 cases e : H r with
 | none => rfl
 | some o => rw [c r o e (by simp)] at h; cases h
theorem zaax {α β : Type} {R S : α → β → Prop} (h : ∀ x y, R x y → S x y) : ∀ {xs : List α} {ys : List β}, Paired R xs ys → Paired S xs ys
 | _, _, .nil => .nil
 | _, _, .cons a t => .cons (h _ _ a) (zaax h t)
inductive Lf
 | nm (n : Str)
 | of (a b : Str)
 | val (v w : Int)
inductive Ex9
 | lf (l : Lf)
 | br (w : Str) (ls : List Lf)
 | pt (l : Lf) (lw wi : Int)
def LfAt (H : Hp) (p : Addr) : Lf → Prop
 | .nm n => H p = some (.tup [.str "name", .str n])
 | .of a b => H p = some (.tup [.str "of", .str a, .str b])
 | .val v w => H p = some (.tup [.str "value", .int v, .int w])
def Other (w : Str) : Prop := w ≠ "name" ∧ w ≠ "of" ∧ w ≠ "value" ∧ w ≠ "part"
def Arity (w : Str) (n : Nat) : Prop := (w = "not" ∧ n = 1) ∨ (w = "pick" ∧ n = 3) ∨ (w ≠ "not" ∧ w ≠ "pick" ∧ n = 2)
structure ArS (w : Str) (n : Nat) : Prop where
 h : Arity w n
def ExAt (H : Hp) (p : Addr) : Ex9 → Prop
 | .lf l => LfAt H p l
 | .br w ls => ∃ ps : List Addr, H p = some (.tup (.str w :: ps.map V.ref)) ∧ Paired (fun l q => LfAt H q l) ls ps ∧ Other w ∧ Arity w ls.length
 | .pt l lw wi => ∃ q, H p = some (.tup [.str "part", .ref q, .int lw, .int wi]) ∧ LfAt H q l
theorem LfAt.tu {H H' : Hp} (k : Tu H H') {p : Addr} {l : Lf} (h : LfAt H p l) : LfAt H' p l := by
 cases l with
 | nm n => exact k _ _ h
 | of a b => exact k _ _ h
 | val v w => exact k _ _ h
theorem ExAt.tu {H H' : Hp} (k : Tu H H') {p : Addr} {e : Ex9} (h : ExAt H p e) : ExAt H' p e := by
 cases e with
 | lf l => exact LfAt.tu k h
 | br w ls => obtain ⟨ps, a, b, c⟩ := h; exact ⟨ps, k _ _ a, zaax (fun _ _ => LfAt.tu k) b, c⟩
 | pt l lw wi => obtain ⟨q, a, b⟩ := h; exact ⟨q, k _ _ a, b.tu k⟩
structure S9 where
 wd : List (Str × Int)
 us : List (Str × Int)
 kp : List Str
 nx : List Str
 ot : List (Str × Int)
 ic : Nat
def kI (l : List (Str × Int)) : List (Key × V) := l.map fun a => (.inr a.1, .int a.2)
def kB (l : List Str) : List (Key × V) := l.map fun n => (.inr n, .bl true)
def fldsS (ab il wd us kp nx ot : Addr) : List (Str × V) := [("above", .ref ab), ("ins", .ref il), ("wides", .ref wd), ("uses", .ref us), ("keepers", .ref kp), ("nexts", .ref nx), ("outs", .ref ot)]
structure Hlp (CS : Addr) (H : Hp) (u : Addr) (k : Int) : Prop where
 ex : ∃ dx ab il wd us kp nx ot : Addr, H u = some (.ins CS dx (fldsS ab il wd us kp nx ot)) ∧ H il = some (.lst []) ∧ H ot = some (.dK (kI [("big", k)]))
theorem Hlp.ch {CS : Addr} {H H' : Hp} {u : Addr} {k : Int} (h : Hlp CS H u k) (c : Ch [] H H') : Hlp CS H' u k := by
 obtain ⟨dx, ab, il, wd, us, kp, nx, ot, a, b, d⟩ := h.ex
 exact ⟨dx, ab, il, wd, us, kp, nx, ot, c.get a (by simp), c.get b (by simp), c.get d (by simp)⟩
def UsAt (CS : Addr) (H : Hp) : List (Str × Int) → List (Key × V) → Prop := Paired fun a kv => kv.1 = .inr a.1 ∧ ∃ u, kv.2 = .ref u ∧ Hlp CS H u a.2
structure SnF (m : Nat) (CS : Addr) (H0 H : Hp) (x : Addr) (hs : List (Str × Int)) (S : S9) (dx ab il wd us kp nx ot : Addr) (ys : List V) (uk ak : List (Key × V)) : Prop where
 c : Ch [] H0 H
 o : H x = some (.ins CS dx (fldsS ab il wd us kp nx ot))
 i : H il = some (.lst ys)
 w : H wd = some (.dK (kI S.wd))
 u : H us = some (.dK uk)
 k : H kp = some (.dK (kB S.kp))
 n : H nx = some (.dK (kB S.nx))
 t : H ot = some (.dK (kI S.ot))
 ua : UsAt CS H0 S.us uk
 a0 : H0 ab = some (.dK ak)
 aa : UsAt CS H0 hs ak
 fr : H0 il = none ∧ H0 wd = none ∧ H0 us = none ∧ H0 kp = none ∧ H0 nx = none ∧ H0 ot = none
 nd : wd ≠ us ∧ wd ≠ kp ∧ wd ≠ nx ∧ wd ≠ ot ∧ us ≠ kp ∧ us ≠ nx ∧ us ≠ ot ∧ kp ≠ nx ∧ kp ≠ ot ∧ nx ≠ ot
 sub : ∀ n ∈ S.kp, (S.wd.lookup n).isSome = true
 z : S.wd.length ≤ m ∧ S.us.length ≤ m ∧ S.kp.length ≤ m ∧ S.nx.length ≤ m ∧ S.ot.length ≤ m ∧ ys.length ≤ m
 zm : m ≤ 1000
 yc : ys.length = S.ic
structure SnAt (m : Nat) (CS : Addr) (H0 H : Hp) (x : Addr) (hs : List (Str × Int)) (S : S9) : Prop where
 ex : ∃ (dx ab il wd us kp nx ot : Addr) (ys : List V) (uk ak : List (Key × V)), SnF m CS H0 H x hs S dx ab il wd us kp nx ot ys uk ak
theorem SnAt.ch {m : Nat} {CS : Addr} {H0 H H' : Hp} {x : Addr} {hs : List (Str × Int)} {S : S9} (h : SnAt m CS H0 H x hs S) (c : Ch [] H H') : SnAt m CS H0 H' x hs S := by
 obtain ⟨dx, ab, il, wd, us, kp, nx, ot, ys, uk, ak, f⟩ := h.ex
 exact ⟨dx, ab, il, wd, us, kp, nx, ot, ys, uk, ak, f.c.trans c, c.get f.o (by simp), c.get f.i (by simp), c.get f.w (by simp), c.get f.u (by simp), c.get f.k (by simp), c.get f.n (by simp), c.get f.t (by simp), f.ua, f.a0, f.aa, f.fr, f.nd, f.sub, f.z, f.zm, f.yc⟩
theorem zafs (l : List (Str × Int)) (n : Str) : valV (kI l) (.inr n) = (l.lookup n).map V.int := by
 induction l with
 | nil => rfl
 | cons x l ih =>
  obtain ⟨u, k⟩ := x
  show valV ((.inr u, .int k) :: kI l) (.inr n) = _
  by_cases h : u = n
  ·subst h
   rw [zab2 (κ := Key) rfl, List.lookup_cons, beq_self_eq_true]
   rfl
  ·rw [zabl (fun e => h (Sum.inr.inj e)), ih, List.lookup_cons, beq_eq_false_iff_ne.mpr (fun e => h e.symm)]
theorem zaky (l : List Str) (n : Str) : valV (kB l) (.inr n) = if n ∈ l then some (.bl true) else none := by
 induction l with
 | nil => rfl
 | cons u l ih =>
  show valV ((.inr u, .bl true) :: kB l) (.inr n) = _
  by_cases h : u = n
  ·subst h
   rw [zab2 (κ := Key) rfl, if_pos (by simp)]
  ·rw [zabl (fun e => h (Sum.inr.inj e)), ih]
   have : n ∈ u :: l ↔ n ∈ l := ⟨fun z => (List.mem_cons.mp z).elim (fun e => absurd e.symm h) id, List.mem_cons_of_mem _⟩
   simp only [this]
theorem zaft {CS : Addr} {H : Hp} : ∀ {l : List (Str × Int)} {k : List (Key × V)}, UsAt CS H l k → ∀ n : Str, (l.lookup n = none ∧ valV k (.inr n) = none) ∨ ∃ (w : Int) (u : Addr), l.lookup n = some w ∧ valV k (.inr n) = some (.ref u) ∧ Hlp CS H u w
 | _, _, .nil, n => .inl ⟨rfl, rfl⟩
 | (a, w) :: l, (kk, v) :: k, .cons ⟨e1, u, e2, h⟩ t, n => by
  have e1 : kk = .inr a := e1
  have e2 : v = .ref u := e2
  subst e1 e2
  by_cases hn : a = n
  ·subst hn
   exact .inr ⟨w, u, by simp [List.lookup_cons], zab2 (κ := Key) rfl, h⟩
  ·have b1 : (n == a) = false := beq_eq_false_iff_ne.mpr (fun e => hn e.symm)
   rcases zaft t n with ⟨c, d⟩ | ⟨w', u', c, d, h'⟩
   ·exact .inl ⟨by rw [List.lookup_cons, b1]; exact c, by rw [zabl (fun e => hn (Sum.inr.inj e))]; exact d⟩
   ·exact .inr ⟨w', u', by rw [List.lookup_cons, b1]; exact c, by rw [zabl (fun e => hn (Sum.inr.inj e))]; exact d, h'⟩
def isW (w : Int) : Bool := decide (1 ≤ w) && decide (w ≤ 16)
def ofW (v w : Int) : Bool := isW w && (decide (0 ≤ v) && decide (v < 2 ^ w.toNat))
def wL (S : S9) : Lf → Int
 | .nm n => (S.wd.lookup n).getD 0
 | .of a b => match S.us.lookup a with
  | none => 0
  | some k => if b = "big" then k else 0
 | .val v w => if ofW v w then w else 0
def partW (whole lw wi : Int) : Int := if wi < 1 ∨ lw < 0 ∨ whole < lw + wi then 0 else wi
def wW (w : Str) (ws : List Int) : Int :=
 if w = "not" then ws.getD 0 0
 else if w = "join" then (if isW ws.sum then ws.sum else 0)
 else if w = "pick" then (if ws.getD 0 0 = 1 ∧ ws.getD 1 0 = ws.getD 2 0 then ws.getD 1 0 else 0)
 else if ws.getD 0 0 ≠ ws.getD 1 0 then 0
 else if w = "less" ∨ w = "same" then 1 else ws.getD 0 0
def wE (S : S9) : Ex9 → Int
 | .lf l => wL S l
 | .br w ls => if 0 ∈ ls.map (wL S) then 0 else wW w (ls.map (wL S))
 | .pt l lw wi => partW (wL S l) lw wi
section
variable {P : Program} {w : World} {K : PySem.W.Frag} {mg : Str → Option Value} {base : Heap} {f : Addr} {fd : FuncData} {k : Nat}
theorem zakz : Nd "WIDEST" := by decide +kernel
theorem zaep : Nd "is_wide" := by decide +kernel
theorem zafu : bootBuiltins "sum" = some (.builtin "sum") := by decide +kernel
theorem zafv : ("sum" : Str) ≠ "__name__" := by decide +kernel
theorem zafw : Nd "sum" := by decide +kernel
theorem av6 : AF (defScope (top 6)) ["wide"] := ⟨by decide +kernel⟩
theorem gl6 : AG (defScope (top 6)) ["WIDEST"] := ⟨by decide +kernel⟩
def spIsW : Sp := fun vs H Q _ => ∃ i : Int, vs = [.int i] ∧ Q (.bl (isW i)) H
theorem scIsW : FnScope ["wide"] ["wide"] (defScope (top 6)) := ⟨rfl, rfl, rfl, by decide +kernel, rfl, by decide +kernel, by decide +kernel⟩
theorem zaqi (F : Fun K "is_wide" "is_wide" (top 6) f fd) (m_WIDEST : ∃ t, mg "WIDEST" = some (.int 16 t)) : FnOk P w K mg base CX0 (k + 1) f fd ["wide"] spIsW := by
 have nd := scIsW.nd
 obtain ⟨tw, m_WIDEST⟩ := m_WIDEST
 refine F.ok scIsW (fun vs H Q E h => by obtain ⟨i, rfl, _⟩ := h; rfl) (fun cdv A outer s H vs Q E hr h => ?_)
 obtain ⟨i, rfl, q⟩ := h
 refine ⟨_, (Pr.h (zaaf (zaaj (zac4 zaeg zaeg zaab (qv av6 0 rfl) (zaix (v := .int 16) (gl6.g 0 rfl) m_WIDEST ⟨_, rfl⟩ zakz))))), ?_⟩
 (try dsimp only [cxOf])
 walk_at "rd"
 refine ite2 (fun h0 => ?_) (fun h0 => ?_)
 ·walk_at "rd"
  have e : isW i = decide (i ≤ 16) := by unfold isW; rw [h0, Bool.true_and]
  rw [e] at q
  exact q
 ·have h0 : decide (1 ≤ i) = false := by simpa using h0
  have e : isW i = false := by unfold isW; rw [h0, Bool.false_and]
  rw [e] at q
  walk_at "rd"
  all_goals first | exact q | (rw [h0]; exact q)
theorem av7 : AF (defScope (top 7)) ["value", "wide"] := ⟨by decide +kernel⟩
theorem gl7 : AG (defScope (top 7)) ["is_wide"] := ⟨by decide +kernel⟩
def spOfW : Sp := fun vs H Q _ => ∃ v i : Int, vs = [.int v, .int i] ∧ i ≤ 10000 ∧ Q (.bl (ofW v i)) H
theorem scOfW : FnScope ["value", "wide"] ["value", "wide"] (defScope (top 7)) := ⟨rfl, rfl, rfl, by decide +kernel, rfl, by decide +kernel, by decide +kernel⟩
theorem zaqj (F : Fun K "is_of_width" "is_of_width" (top 7) f fd) (Dis_wide : DefOk P w K mg base CX0 k "is_wide" ["wide"] spIsW) : FnOk P w K mg base CX0 (k + 1) f fd ["value", "wide"] spOfW := by
 have nd := scOfW.nd
 refine F.ok scOfW (fun vs H Q E h => by obtain ⟨v, i, rfl, _⟩ := h; rfl) (fun cdv A outer s H vs Q E hr h => ?_)
 obtain ⟨v, i, rfl, i1, q⟩ := h
 refine ⟨_, (Pr.h (zaaf (zaaj (zabw (zaar Dis_wide hr (gl7.g 0 rfl) pass0 (zaaa (qv av7 1 rfl) zaac zaag) zaep) (zab3 (zac4 zaeg zaje zaab (qv av7 0 rfl) (zaau zapu zaab (qv av7 1 rfl)))))))), ?_⟩
 (try dsimp only [cxOf])
 walk_at "rd"
 cases h1 : isW i with
 | false =>
  have e : ofW v i = false := by unfold ofW; rw [h1, Bool.false_and]
  rw [e] at q
  walk_at "rd"
  exact q
 | true =>
  have e : ofW v i = (decide (0 ≤ v) && decide (v < 1 * 2 ^ i.toNat)) := by unfold ofW; rw [h1, Bool.true_and, Int.one_mul]
  rw [e] at q
  have hi : 1 ≤ i ∧ i ≤ 16 := by simpa [isW] using h1
  walk_at "rd"
  refine ite2 (fun h0 => ?_) (fun h0 => ?_)
  ·rw [h0, Bool.true_and] at q
   walk_at "rd"
  ·have h0 : decide (0 ≤ v) = false := by simpa using h0
   rw [h0, Bool.false_and] at q
   exact q
theorem fS_w (ab il wd us kp nx ot : Addr) : List.lookup (Str.ofString "wides") (fldsS ab il wd us kp nx ot) = some (.ref wd) := rfl
theorem fS_u (ab il wd us kp nx ot : Addr) : List.lookup (Str.ofString "uses") (fldsS ab il wd us kp nx ot) = some (.ref us) := rfl
theorem fS_a (ab il wd us kp nx ot : Addr) : List.lookup (Str.ofString "above") (fldsS ab il wd us kp nx ot) = some (.ref ab) := rfl
theorem fS_i (ab il wd us kp nx ot : Addr) : List.lookup (Str.ofString "ins") (fldsS ab il wd us kp nx ot) = some (.ref il) := rfl
theorem fS_k (ab il wd us kp nx ot : Addr) : List.lookup (Str.ofString "keepers") (fldsS ab il wd us kp nx ot) = some (.ref kp) := rfl
theorem fS_n (ab il wd us kp nx ot : Addr) : List.lookup (Str.ofString "nexts") (fldsS ab il wd us kp nx ot) = some (.ref nx) := rfl
theorem fS_o (ab il wd us kp nx ot : Addr) : List.lookup (Str.ofString "outs") (fldsS ab il wd us kp nx ot) = some (.ref ot) := rfl
theorem av10 : AF (defScope (top 10)) ["whole", "low", "wide"] := ⟨by decide +kernel⟩
def spPart : Sp := fun vs H Q _ => ∃ a b c : Int, vs = [.int a, .int b, .int c] ∧ Q (.int (partW a b c)) H
theorem scPart : FnScope ["whole", "low", "wide"] ["whole", "low", "wide"] (defScope (top 10)) := ⟨rfl, rfl, rfl, by decide +kernel, rfl, by decide +kernel, by decide +kernel⟩
theorem zaon (F : Fun K "wide_of_part" "wide_of_part" (top 10) f fd) : FnOk P w K mg base CX0 (k + 1) f fd ["whole", "low", "wide"] spPart := by
 have nd := scPart.nd
 refine F.ok scPart (fun vs H Q E h => by obtain ⟨a, b, c, rfl, _⟩ := h; rfl) (fun cdv A outer s H vs Q E hr h => ?_)
 obtain ⟨a, b, c, rfl, q⟩ := h
 refine ⟨_, (Pr.h (zaad (zaaw (zab5 (zab8 (zaaq zaje (qv av10 2 rfl) zaab (nomark _)) (zab8 (zaaq zaje (qv av10 1 rfl) zaab (nomark _)) (zabz (zaaq zaj3 (zaau zabo (qv av10 1 rfl) (qv av10 2 rfl)) (qv av10 0 rfl) (nomark _)))))) (zaaf (zaaj zaab)) zaak) (zaaf (zaaj (qv av10 2 rfl))))), ?_⟩
 (try dsimp only [cxOf])
 unfold partW at q
 walk_at "rd"
 cases h1 : decide (c < 1) with
 | true => rw [if_pos (.inl (of_decide_eq_true h1))] at q; walk_at "rd"; exact q
 | false =>
  walk_at "rd"
  cases h2 : decide (b < 0) with
  | true => rw [if_pos (.inr (.inl (of_decide_eq_true h2)))] at q; walk_at "rd"; exact q
  | false =>
   walk_at "rd"
   cases h3 : decide (a < b + c) with
   | true => rw [if_pos (.inr (.inr (of_decide_eq_true h3)))] at q; walk_at "rd"; exact q
   | false => rw [if_neg (by have := of_decide_eq_false h1; have := of_decide_eq_false h2; have := of_decide_eq_false h3; omega)] at q; walk_at "rd"
theorem av11 : AF (defScope (top 11)) ["word", "wides"] := ⟨by decide +kernel⟩
theorem gl11 : AG (defScope (top 11)) ["is_wide", "sum"] := ⟨by decide +kernel⟩
def spWord : Sp := fun vs H Q _ => ∃ (wo : Str) (p : Addr) (ws : List Int), vs = [.str wo, .ref p] ∧ H p = some (.lst (ws.map V.int)) ∧ ArS wo ws.length ∧ ∀ H', Ch [] H H' → Q (.int (wW wo ws)) H'
theorem scWord : FnScope ["word", "wides"] ["word", "wides"] (defScope (top 11)) := ⟨rfl, rfl, rfl, by decide +kernel, rfl, by decide +kernel, by decide +kernel⟩
theorem zaeq {ws : List Int} {i : Nat} (h : i < ws.length) : atI (ws.map V.int) (i : Int) = some (.int (ws.getD i 0)) := zadi (by simp [h])
theorem zaoo (F : Fun K "wide_of_word" "wide_of_word" (top 11) f fd) (Dis_wide : DefOk P w K mg base CX0 k "is_wide" ["wide"] spIsW) (z_sum : mg "sum" = none) : FnOk P w K mg base CX0 (k + 1) f fd ["word", "wides"] spWord := by
 have nd := scWord.nd
 refine F.ok scWord (fun vs H Q E h => by obtain ⟨wo, p, ws, rfl, _⟩ := h; rfl) (fun cdv A outer s H vs Q E hr h => ?_)
 obtain ⟨wo, p, ws, rfl, hp, ⟨ar⟩, q⟩ := h
 refine ⟨_, (Pr.h (zaad (zaaw (zaaq zabg (qv av11 0 rfl) zaap (nomark _)) (zaaf (zaaj (zaal zaaz (qv av11 1 rfl) zaab (fun _ _ => rfl)))) zaak) (zaad (zaaw (zaaq zabg (qv av11 0 rfl) zaap (nomark _)) (zaaf (zaaj (zacw (zaba (zaar Dis_wide hr (gl11.g 0 rfl) pass0 (zaaa (zaai (zadd rfl) (gl11.g 1 rfl) z_sum zafu (zaaa (qv av11 1 rfl) zaac zaag) zafv zafw) zaac zab0) zaep)) (zaai (zadd rfl) (gl11.g 1 rfl) z_sum zafu (zaaa (qv av11 1 rfl) zaac zaag) zafv zafw) zaab))) zaak) (zaad (zaaw (zaaq zabg (qv av11 0 rfl) zaap (nomark _)) (zaaf (zaaj (zacw (zab5 (zaia (zaaq zabg (zaal zaaz (qv av11 1 rfl) zaab (fun _ _ => rfl)) zaab (nomark _)) (zagp (zaaq zabg (zaal zaaz (qv av11 1 rfl) zaab (fun _ _ => rfl)) (zaal zaaz (qv av11 1 rfl) zaab (fun _ _ => rfl)) (nomark _))))) (zaal zaaz (qv av11 1 rfl) zaab (fun _ _ => rfl)) zaab))) zaak) (zaad (zaaw (zaaq zadh (zaal zaaz (qv av11 1 rfl) zaab (fun _ _ => rfl)) (zaal zaaz (qv av11 1 rfl) zaab (fun _ _ => rfl)) (nomark _)) (zaaf (zaaj zaab)) zaak) (zaaf (zaaj (zacw (zaaq zac1 (qv av11 0 rfl) (zaa4 (zaaa zaap (zaaa zaap zaac zaae) zaae)) rfl) zaab (zaal zaaz (qv av11 1 rfl) zaab (fun _ _ => rfl)))))))))), ?_⟩
 (try dsimp only [cxOf])
 unfold wW at q
 walk_at "rd"
 refine ite2 (fun h1 => ?_) (fun h1 => ?_)
 ·have h1 : wo = "not" := by simpa using h1
  rw [if_pos h1] at q
  have a0 : atI (ws.map V.int) 0 = some (.int (ws.getD 0 0)) := zaeq (i := 0) (by rcases ar with h | h | h <;> omega)
  walk_at "rd"
  exact q _ (Ch.refl _ _)
 ·have h1 : ¬ wo = "not" := by simpa using h1
  rw [if_neg h1] at q
  walk_at "rd"
  refine ite2 (fun h2 => ?_) (fun h2 => ?_)
  ·have h2 : wo = "join" := by simpa using h2
   rw [if_pos h2] at q
   walk_at "rd"
   cases hw : isW ws.sum with
   | true =>
    rw [hw] at q
    walk_at "rd"
    exact q _ (Ch.refl _ _)
   | false =>
    rw [hw] at q
    walk_at "rd"
    exact q _ (Ch.refl _ _)
  ·have h2 : ¬ wo = "join" := by simpa using h2
   rw [if_neg h2] at q
   walk_at "rd"
   refine ite2 (fun h3 => ?_) (fun h3 => ?_)
   ·have h3 : wo = "pick" := by simpa using h3
    rw [if_pos h3] at q
    have l3 : ws.length = 3 := by
     rcases ar with h | h | h
     ·exact absurd h.1 h1
     ·exact h.2
     ·exact absurd h3 h.2.1
    have a0 : atI (ws.map V.int) 0 = some (.int (ws.getD 0 0)) := zaeq (i := 0) (by omega)
    have a1 : atI (ws.map V.int) 1 = some (.int (ws.getD 1 0)) := zaeq (i := 1) (by omega)
    have a2 : atI (ws.map V.int) 2 = some (.int (ws.getD 2 0)) := zaeq (i := 2) (by omega)
    walk_at "rd"
    refine ite2 (fun h4 => ?_) (fun h4 => ?_)
    ·have h4 : ws.getD 0 0 = 1 := by simpa using h4
     walk_at "rd"
     refine ite2 (fun h5 => ?_) (fun h5 => ?_)
     ·have h5 : ws.getD 1 0 = ws.getD 2 0 := by simpa using h5
      rw [if_pos ⟨h4, h5⟩] at q
      walk_at "rd"
      exact q _ (Ch.refl _ _)
     ·have h5 : ¬ ws.getD 1 0 = ws.getD 2 0 := by simpa using h5
      rw [if_neg (fun z => h5 z.2)] at q
      walk_at "rd"
      exact q _ (Ch.refl _ _)
    ·have h4 : ¬ ws.getD 0 0 = 1 := by simpa using h4
     rw [if_neg (fun z => h4 z.1)] at q
     walk_at "rd"
     exact q _ (Ch.refl _ _)
   ·have h3 : ¬ wo = "pick" := by simpa using h3
    rw [if_neg h3] at q
    have l2 : ws.length = 2 := by
     rcases ar with h | h | h
     ·exact absurd h.1 h1
     ·exact absurd h.1 h3
     ·exact h.2.2
    have a0 : atI (ws.map V.int) 0 = some (.int (ws.getD 0 0)) := zaeq (i := 0) (by omega)
    have a1 : atI (ws.map V.int) 1 = some (.int (ws.getD 1 0)) := zaeq (i := 1) (by omega)
    walk_at "rd"
    refine ite2 (fun h4 => ?_) (fun h4 => ?_)
    ·have h4 : ¬ ws.getD 0 0 = ws.getD 1 0 := by simpa using h4
     rw [if_pos h4] at q
     walk_at "rd"
     exact q _ (Ch.refl _ _)
    ·have h4 : ws.getD 0 0 = ws.getD 1 0 := by simpa using h4
     rw [if_neg (fun z => z h4)] at q
     walk_at "rd"
     rename_i T hT
     by_cases h5 : wo = "less" ∨ wo = "same"
     ·have e : inV (V.str wo) [V.str (Str.ofString "less"), V.str (Str.ofString "same")] = true := by rcases h5 with rfl | rfl <;> decide +kernel
      rw [if_pos h5] at q
      rw [if_neg (by decide), e]
      walk_at "rd"
      exact q _ (Ch.new hT _)
     ·have e : inV (V.str wo) [V.str (Str.ofString "less"), V.str (Str.ofString "same")] = false := by
       have n1 : ¬ wo = "less" := fun z => h5 (.inl z)
       have n2 : ¬ wo = "same" := fun z => h5 (.inr z)
       simp [inV, eqV]
       exact ⟨fun z => n1 z.symm, fun z => n2 z.symm⟩
      rw [if_neg h5] at q
      rw [if_neg (by decide), e]
      walk_at "rd"
      exact q _ (Ch.new hT _)
theorem av9 : AF (defScope (top 9)) ["sense", "use", "out"] := ⟨by decide +kernel⟩
def spOut (CS : Addr) : Sp := fun vs H Q _ => ∃ (m : Nat) (H0 : Hp) (x : Addr) (hs : List (Str × Int)) (S : S9) (a b : Str), vs = [.ref x, .str a, .str b] ∧ SnAt m CS H0 H x hs S ∧ Q (.int (wL S (.of a b))) H
theorem scOut : FnScope ["sense", "use", "out"] ["sense", "use", "out"] (defScope (top 9)) := ⟨rfl, rfl, rfl, by decide +kernel, rfl, by decide +kernel, by decide +kernel⟩
theorem zaqk {CS : Addr} (F : Fun K "wide_of_out" "wide_of_out" (top 9) f fd) (cl : Cls K CS) (nU : NoAttr K CS "uses") (nO : NoAttr K CS "outs") : FnOk P w K mg base CX0 (k + 1) f fd ["sense", "use", "out"] (spOut CS) := by
 have nd := scOut.nd
 refine F.ok scOut (fun vs H Q E h => by obtain ⟨m, H0, x, hs, S, a, b, rfl, _⟩ := h; rfl) (fun cdv A outer s H vs Q E hr h => ?_)
 obtain ⟨m, H0, x, hs, S, a, b, rfl, sn, q⟩ := h
 have hu := zac8 hr
 refine ⟨_, (Pr.h (zaad (zaaw (zaeo hu (qv av9 1 rfl) (zaa9 (qv av9 0 rfl) rfl)) (zaaf (zaaj zaab)) zaak) (zaaf (zaaj (zacp hu (zaa9 (zafo hu (zaa9 (qv av9 0 rfl) rfl) (qv av9 1 rfl) (fun _ _ => rfl)) rfl) (qv av9 2 rfl) zaab ⟨rfl, rfl, rfl, rfl⟩))))), ?_⟩
 (try dsimp only [cxOf])
 obtain ⟨dx, ab, il, wd, us, kp, nx, ot, ys, uk, ak, sf⟩ := sn.ex
 have so := sf.o
 have su := sf.u
 have fu := fS_u ab il wd us kp nx ot
 rcases zaft sf.ua a with ⟨e1, e2⟩ | ⟨wi, u, e1, e2, hl⟩
 ·have e : wL S (.of a b) = 0 := by show (match S.us.lookup a with | none => (0 : Int) | some k => if b = "big" then k else 0) = _; rw [e1]
  rw [e] at q
  walk_at "rd"
  exact q
 ·have e : wL S (.of a b) = if b = "big" then wi else 0 := by show (match S.us.lookup a with | none => (0 : Int) | some k => if b = "big" then k else 0) = _; rw [e1]
  rw [e] at q
  obtain ⟨dx', ab', il', wd', us', kp', nx', ot', o1, o2, o3⟩ := (hl.ch sf.c).ex
  have fo := fS_o ab' il' wd' us' kp' nx' ot'
  have ev : valV (kI [("big", wi)]) (.inr b) = if b = "big" then some (.int wi) else none := by
   rw [zafs]
   by_cases hb : b = "big"
   ·subst hb; rfl
   ·rw [if_neg hb, List.lookup_cons, beq_eq_false_iff_ne.mpr hb]; rfl
  by_cases hb : b = "big"
  ·rw [if_pos hb] at q ev
   walk_at "rd"
   exact q
  ·rw [if_neg hb] at q ev
   walk_at "rd"
   exact q
end
end

section
local macro_rules | `(tactic| walk_at "user") => `(tactic| first
 | (apply zafr; walk_at "get")
 | (apply zab9; (focus walk_at "get"); (focus with_reducible assumption))
 | (apply zace; (focus walk_at "get"); (focus with_reducible assumption)))
structure LfS (H : Hp) (p : Addr) (l : Lf) : Prop where
 h : LfAt H p l
def VOk : Lf → Prop
 | .val _ w => w ≤ 10000
 | _ => True
structure VOS (l : Lf) : Prop where
 h : VOk l
def XOk : Ex9 → Prop
 | .lf l => VOk l
 | .br _ ls => ∀ l ∈ ls, VOk l
 | .pt l _ _ => VOk l
structure ExS (H : Hp) (p : Addr) (e : Ex9) : Prop where
 h : ExAt H p e
 v : XOk e
theorem zaop {xs : List V} {v : Int} (h0 : 0 ≤ v) (h1 : v ≤ (xs.length : Int)) : cutV xs (some v) none = xs.drop v.toNat := by
 have e : HT.sIx xs.length 0 (some v) = v.toNat := by
  show (if v < 0 then (v + (xs.length : Int)).toNat else min v.toNat xs.length) = _
  rw [if_neg (by omega)]
  omega
 show (xs.drop (HT.sIx xs.length 0 (some v))).take (xs.length - HT.sIx xs.length 0 (some v)) = _
 rw [e]
 exact List.take_of_length_le (by rw [List.length_drop]; exact Nat.le_refl _)
theorem zak0 (x : V) (xs : List V) : cutV (x :: xs) (some 1) none = xs := by
 rw [zaop (by decide) (by simp; omega)]
 rfl
theorem zaoq (ws : List Int) : inV (V.int 0) (ws.map V.int) = decide (0 ∈ ws) := by
 induction ws with
 | nil => rfl
 | cons a ws ih =>
  have e : inV (V.int 0) ((a :: ws).map V.int) = (eqV (V.int a) (V.int 0) || inV (V.int 0) (ws.map V.int)) := by simp [inV]
  rw [e, ih]
  by_cases h : a = 0
  ·subst h; simp [eqV]
  ·have : (0 : Int) ∈ a :: ws ↔ 0 ∈ ws := ⟨fun z => (List.mem_cons.mp z).elim (fun e => absurd e.symm h) id, List.mem_cons_of_mem _⟩
   simp [eqV, this, h]
section
variable {P : Program} {w : World} {K : PySem.W.Frag} {mg : Str → Option Value} {base : Heap} {f : Addr} {fd : FuncData} {k : Nat}
theorem zad2 : Nd "wide_of_out" := by decide +kernel
theorem zac0 : Nd "is_of_width" := by decide +kernel
theorem zaca : Nd "wide_of" := by decide +kernel
theorem zadk : Nd "wide_of_part" := by decide +kernel
theorem zadl : Nd "wide_of_word" := by decide +kernel
theorem av8 : AF (defScope (top 8)) ["sense", "expr", "word", "wides"] := ⟨by decide +kernel⟩
theorem gl8 : AG (defScope (top 8)) ["wide_of_out", "is_of_width", "wide_of_part", "wide_of", "wide_of_word"] := ⟨by decide +kernel⟩
def zai4 : Scope := { kind := PySem.ScopeKind.function, names := [ (PySem.Str.ofString ".0", PySem.NameKind.local), (PySem.Str.ofString "inner", PySem.NameKind.local), (PySem.Str.ofString "wide_of", PySem.NameKind.globalImplicit), (PySem.Str.ofString "sense", PySem.NameKind.free)], isGenerator := false, isCoroutine := false, more := [] : PySem.Scope }
theorem zai5 : CompOk zai4 (defScope (top 8)) (["inner"] : List Str) (["sense", "expr", "word", "wides"] : List Str) [0] (["inner", "sense"] : List Str) := compOk rfl (by decide +kernel) (by decide +kernel) (by decide +kernel) (by decide +kernel) rfl (by decide +kernel)
theorem zai6 : AK (relab zai4 (defScope (top 8))) ["inner"] := ⟨by decide +kernel⟩
theorem zam4 : AG (relab zai4 (defScope (top 8))) ["wide_of"] := ⟨by decide +kernel⟩
theorem zai7 : AV (relab zai4 (defScope (top 8))) ["inner", "sense"] := ⟨by decide +kernel⟩
def spF0 : Sp := fun vs _ _ _ => vs.length = 2 ∧ False
def spWL (CS : Addr) : Sp := fun vs H Q _ => ∃ (m : Nat) (H0 : Hp) (x p : Addr) (hs : List (Str × Int)) (S : S9) (l : Lf), vs = [.ref x, .ref p] ∧ SnAt m CS H0 H x hs S ∧ LfS H p l ∧ VOS l ∧ Q (.int (wL S l)) H
theorem scWO : FnScope ["sense", "expr", "word", "wides"] ["sense", "expr"] (defScope (top 8)) := ⟨rfl, rfl, rfl, by decide +kernel, rfl, by decide +kernel, by decide +kernel⟩
theorem zaql (F : Fun K "wide_of" "wide_of" (top 8) f fd) : FnOk P w K mg base CX0 (k + 1) f fd ["sense", "expr"] spF0 :=
 F.ok scWO (fun vs H Q E h => h.1) (fun cdv A outer s H vs Q E hr h => h.2.elim)
theorem zaqm {CS : Addr} (F : Fun K "wide_of" "wide_of" (top 8) f fd) (cl : Cls K CS) (nW : NoAttr K CS "wides") (Dwide_of : DefOk P w K mg base CX0 k "wide_of" ["sense", "expr"] spF0) (Dwide_of_out : DefOk P w K mg base CX0 k "wide_of_out" ["sense", "use", "out"] (spOut CS)) (Dis_of_width : DefOk P w K mg base CX0 k "is_of_width" ["value", "wide"] spOfW) (Dwide_of_part : DefOk P w K mg base CX0 k "wide_of_part" ["whole", "low", "wide"] spPart) (Dwide_of_word : DefOk P w K mg base CX0 k "wide_of_word" ["word", "wides"] spWord) :
  FnOk P w K mg base CX0 (k + 1) f fd ["sense", "expr"] (spWL CS) := by
 have nd := scWO.nd
 refine F.ok scWO (fun vs H Q E h => by obtain ⟨m, H0, x, p, hs, S, l, rfl, _⟩ := h; rfl) (fun cdv A outer s H vs Q E hr h => ?_)
 obtain ⟨m, H0, x, p, hs, S, l, rfl, sn, ⟨la⟩, ⟨vo⟩, q⟩ := h
 have hu := zac8 hr
 refine ⟨_, (Pr.h (zaad (zaa1 (i := 2) nd rfl (av8.l 2 rfl) (zaal zaat (qv av8 1 rfl) zaab (fun _ _ => rfl))) (zaad (zaaw (zaaq zabg (qv av8 2 rfl) zaap (nomark _)) (zaaf (zaaj (zacp hu (zaa9 (qv av8 0 rfl) rfl) (zaal zaat (qv av8 1 rfl) zaab (fun _ _ => rfl)) zaab ⟨rfl, rfl, rfl, rfl⟩))) zaak) (zaad (zaaw (zaaq zabg (qv av8 2 rfl) zaap (nomark _)) (zaaf (zaaj (zaar Dwide_of_out hr (gl8.g 0 rfl) pass0 (zaaa (qv av8 0 rfl) (zaaa (zaal zaat (qv av8 1 rfl) zaab (fun _ _ => rfl)) (zaaa (zaal zaat (qv av8 1 rfl) zaab (fun _ _ => rfl)) zaac zaas) zaas) zaag) zad2))) zaak) (zaad (zaaw (zaaq zabg (qv av8 2 rfl) zaap (nomark _)) (zaaf (zaaj (zacw (zaba (zaar Dis_of_width hr (gl8.g 1 rfl) pass0 (zaaa (zaal zaat (qv av8 1 rfl) zaab (fun _ _ => rfl)) (zaaa (zaal zaat (qv av8 1 rfl) zaab (fun _ _ => rfl)) zaac zaas) zaas) zac0)) (zaal zaat (qv av8 1 rfl) zaab (fun _ _ => rfl)) zaab))) zaak) (zaad (zaaw (zaaq zabg (qv av8 2 rfl) zaap (nomark _)) (zaaf (zaaj (zaar Dwide_of_part hr (gl8.g 2 rfl) pass0 (zaaa (zaar Dwide_of hr (gl8.g 3 rfl) pass0 (zaaa (qv av8 0 rfl) (zaaa (zaal zaat (qv av8 1 rfl) zaab (fun _ _ => rfl)) zaac zaas) zaag) zaca) (zaaa (zaal zaat (qv av8 1 rfl) zaab (fun _ _ => rfl)) (zaaa (zaal zaat (qv av8 1 rfl) zaab (fun _ _ => rfl)) zaac zaas) zaas) zab0) zadk))) zaak) (zaad (zadx (i := 3) nd rfl (av8.l 3 rfl) rfl zai5 (zaek (zad8 zais (qv av8 1 rfl) (zafa zaab) zae9)) (fun _ _ _ _ _ => (zaa2 (i := 0) zai5.nd rfl (Or.inl (zai6.k 0 rfl)) (Or.inr (zai6.k 0 rfl)))) (fun _ _ _ _ _ => zab4) (fun _ _ _ _ _ => (zaar Dwide_of hr (zam4.g 0 rfl) pass0 (zaaa (qw zai7 1 rfl) (zaaa (qw zai7 0 rfl) zaac zaag) zaag) zaca)) rfl) (zaad (zaaw (zaaq zac1 zaab (qv av8 3 rfl) rfl) (zaaf (zaaj zaab)) zaak) (zaaf (zaaj (zaar Dwide_of_word hr (gl8.g 4 rfl) pass0 (zaaa (qv av8 2 rfl) (zaaa (qv av8 3 rfl) zaac zaag) zaag) zadl))))))))))), ?_⟩
 (try dsimp only [cxOf])
 cases l with
 | nm n =>
  have la : H p = some (.tup [.str "name", .str n]) := la
  obtain ⟨dx, ab, il, wd, us, kp, nx, ot, ys, uk, ak, sf⟩ := sn.ex
  have so := sf.o
  have sw := sf.w
  have fw := fS_w ab il wd us kp nx ot
  have ev := zafs S.wd n
  have q : Q (.int ((S.wd.lookup n).getD 0)) H := q
  cases el : S.wd.lookup n with
  | none => rw [el] at q ev; have ev : valV (kI S.wd) (.inr n) = none := ev; walk_at "rd"; exact q
  | some v => rw [el] at q ev; have ev : valV (kI S.wd) (.inr n) = some (.int v) := ev; walk_at "rd"; exact q
 | of a b =>
  have la : H p = some (.tup [.str "of", .str a, .str b]) := la
  walk_at "rd"
 | val v wi =>
  have la : H p = some (.tup [.str "value", .int v, .int wi]) := la
  have vo : wi ≤ 10000 := vo
  have q : Q (.int (if ofW v wi = true then wi else 0)) H := q
  walk_at "rd"
  cases ho : ofW v wi with
  | true => rw [ho] at q; walk_at "rd"; exact q
  | false => rw [ho] at q; walk_at "rd"; exact q
def spWE (CS : Addr) : Sp := fun vs H Q _ => ∃ (m : Nat) (H0 : Hp) (x p : Addr) (hs : List (Str × Int)) (S : S9) (e : Ex9), vs = [.ref x, .ref p] ∧ SnAt m CS H0 H x hs S ∧ ExS H p e ∧ ∀ H', Ch [] H H' → Q (.int (wE S e)) H'
theorem zarr {CS : Addr} (F : Fun K "wide_of" "wide_of" (top 8) f fd) (cl : Cls K CS) (nW : NoAttr K CS "wides") (Dwide_of : DefOk P w K mg base CX0 k "wide_of" ["sense", "expr"] (spWL CS)) (Dwide_of_out : DefOk P w K mg base CX0 k "wide_of_out" ["sense", "use", "out"] (spOut CS)) (Dis_of_width : DefOk P w K mg base CX0 k "is_of_width" ["value", "wide"] spOfW) (Dwide_of_part : DefOk P w K mg base CX0 k "wide_of_part" ["whole", "low", "wide"] spPart) (Dwide_of_word : DefOk P w K mg base CX0 k "wide_of_word" ["word", "wides"] spWord)
  (L : FnOk P w K mg base CX0 (k + 1) f fd ["sense", "expr"] (spWL CS)) : FnOk P w K mg base CX0 (k + 1) f fd ["sense", "expr"] (spWE CS) := by
 have nd := scWO.nd
 refine F.ok scWO (fun vs H Q E h => by obtain ⟨m, H0, x, p, hs, S, l, rfl, _⟩ := h; rfl) (fun cdv A outer s H vs Q E hr h => ?_)
 obtain ⟨m, H0, x, p, hs, S, e, rfl, sn, ⟨xa, xo⟩, q⟩ := h
 have hu := zac8 hr
 refine ⟨_, (Pr.h (zaad (zaa1 (i := 2) nd rfl (av8.l 2 rfl) (zaal zaat (qv av8 1 rfl) zaab (fun _ _ => rfl))) (zaad (zaaw (zaaq zabg (qv av8 2 rfl) zaap (nomark _)) (zaaf (zaaj (zacp hu (zaa9 (qv av8 0 rfl) rfl) (zaal zaat (qv av8 1 rfl) zaab (fun _ _ => rfl)) zaab ⟨rfl, rfl, rfl, rfl⟩))) zaak) (zaad (zaaw (zaaq zabg (qv av8 2 rfl) zaap (nomark _)) (zaaf (zaaj (zaar Dwide_of_out hr (gl8.g 0 rfl) pass0 (zaaa (qv av8 0 rfl) (zaaa (zaal zaat (qv av8 1 rfl) zaab (fun _ _ => rfl)) (zaaa (zaal zaat (qv av8 1 rfl) zaab (fun _ _ => rfl)) zaac zaas) zaas) zaag) zad2))) zaak) (zaad (zaaw (zaaq zabg (qv av8 2 rfl) zaap (nomark _)) (zaaf (zaaj (zacw (zaba (zaar Dis_of_width hr (gl8.g 1 rfl) pass0 (zaaa (zaal zaat (qv av8 1 rfl) zaab (fun _ _ => rfl)) (zaaa (zaal zaat (qv av8 1 rfl) zaab (fun _ _ => rfl)) zaac zaas) zaas) zac0)) (zaal zaat (qv av8 1 rfl) zaab (fun _ _ => rfl)) zaab))) zaak) (zaad (zaaw (zaaq zabg (qv av8 2 rfl) zaap (nomark _)) (zaaf (zaaj (zaar Dwide_of_part hr (gl8.g 2 rfl) pass0 (zaaa (zaar Dwide_of hr (gl8.g 3 rfl) pass0 (zaaa (qv av8 0 rfl) (zaaa (zaal zaat (qv av8 1 rfl) zaab (fun _ _ => rfl)) zaac zaas) zaag) zaca) (zaaa (zaal zaat (qv av8 1 rfl) zaab (fun _ _ => rfl)) (zaaa (zaal zaat (qv av8 1 rfl) zaab (fun _ _ => rfl)) zaac zaas) zaas) zab0) zadk))) zaak) (zaad (zadx (i := 3) nd rfl (av8.l 3 rfl) rfl zai5 (zaek (zad8 zais (qv av8 1 rfl) (zafa zaab) zae9)) (fun _ _ _ _ _ => (zaa2 (i := 0) zai5.nd rfl (Or.inl (zai6.k 0 rfl)) (Or.inr (zai6.k 0 rfl)))) (fun _ _ _ _ _ => zab4) (fun _ _ _ _ _ => (zaar Dwide_of hr (zam4.g 0 rfl) pass0 (zaaa (qw zai7 1 rfl) (zaaa (qw zai7 0 rfl) zaac zaag) zaag) zaca)) rfl) (zaad (zaaw (zaaq zac1 zaab (qv av8 3 rfl) rfl) (zaaf (zaaj zaab)) zaak) (zaaf (zaaj (zaar Dwide_of_word hr (gl8.g 4 rfl) pass0 (zaaa (qv av8 2 rfl) (zaaa (qv av8 3 rfl) zaac zaag) zaag) zadl))))))))))), ?_⟩
 (try dsimp only [cxOf])
 cases e with
 | lf l =>
  cases l with
  | nm n =>
   have la : H p = some (.tup [.str "name", .str n]) := xa
   obtain ⟨dx, ab, il, wd, us, kp, nx, ot, ys, uk, ak, sf⟩ := sn.ex
   have so := sf.o
   have sw := sf.w
   have fw := fS_w ab il wd us kp nx ot
   have ev := zafs S.wd n
   have q : Q (.int ((S.wd.lookup n).getD 0)) H := q H (Ch.refl _ _)
   cases el : S.wd.lookup n with
   | none => rw [el] at q ev; have ev : valV (kI S.wd) (.inr n) = none := ev; walk_at "rd"; exact q
   | some v => rw [el] at q ev; have ev : valV (kI S.wd) (.inr n) = some (.int v) := ev; walk_at "rd"; exact q
  | of a b =>
   have la : H p = some (.tup [.str "of", .str a, .str b]) := xa
   walk_at "rd"
   exact q _ (Ch.refl _ _)
  | val v wi =>
   have la : H p = some (.tup [.str "value", .int v, .int wi]) := xa
   have vo : wi ≤ 10000 := xo
   have q : Q (.int (if ofW v wi = true then wi else 0)) H := q H (Ch.refl _ _)
   walk_at "rd"
   cases ho : ofW v wi with
   | true => rw [ho] at q; walk_at "rd"; exact q
   | false => rw [ho] at q; walk_at "rd"; exact q
 | pt l lw wi =>
  obtain ⟨q1, la, lb⟩ := xa
  have lb : LfS H q1 l := ⟨lb⟩
  have vo : VOS l := ⟨xo⟩
  walk_at "rd"
  exact q _ (Ch.refl _ _)
 | br wo ls =>
  obtain ⟨ps, la, lb, ⟨o1, o2, o3, o4⟩, ar⟩ := xa
  have ll := Paired.length lb
  walk_at "rd"
  refine ite2 (fun h => absurd (by simpa using h) o1) (fun _ => ?_)
  walk_at "rd"
  refine ite2 (fun h => absurd (by simpa using h) o2) (fun _ => ?_)
  walk_at "rd"
  refine ite2 (fun h => absurd (by simpa using h) o3) (fun _ => ?_)
  walk_at "rd"
  refine ite2 (fun h => absurd (by simpa using h) o4) (fun _ => ?_)
  walk_at "rd"
  rename_i T hT
  rw [zak0]
  obtain ⟨H1, e1⟩ : ∃ H1, upd H T (.tup (ps.map V.ref)) = H1 := ⟨_, rfl⟩
  have c1 : Ch [] H H1 := by rw [← e1]; exact Ch.new hT _
  have g1 : H1 T = some (.tup (ps.map V.ref)) := by rw [← e1]; exact zaah
  have lb1 : Paired (fun l q => LfAt H1 q l) ls ps := zaax (fun _ _ => LfAt.tu (Tu.same c1)) lb
  have sn1 := sn.ch c1
  rw [e1]
  clear e1 hT
  have l3 : ls.length ≤ 3 := by rcases ar with h | h | h <;> omega
  refine zaea (ps.map V.ref) (fun i ys σ H' => H' = H1 ∧ ys = ((ls.take i).map (wL S)).map V.int ∧ ∃ u, σ = [u, some (.ref x)]) (by rw [sizeLine_eq, List.length_map]; omega) ⟨rfl, rfl, _, rfl⟩ ?_ ?_ ?_
  ·rintro i ys σ H' hi ⟨rfl, rfl, _⟩
   exact ⟨by simp; omega, SqT.of g1⟩
  ·rintro i ys σ H' z hz ⟨rfl, rfl, u, rfl⟩
   rw [List.getElem?_map] at hz
   obtain ⟨pq, hq, rfl⟩ := Option.map_eq_some_iff.mp hz
   have hi : i < ls.length := by rw [ll]; exact (List.getElem?_eq_some_iff.mp hq).1
   have hl : ls[i]? = some ls[i] := List.getElem?_eq_getElem hi
   have lf : LfS H' pq ls[i] := ⟨by
    have := zacx lb1 i hi (by omega)
    rw [← (List.getElem?_eq_some_iff.mp hq).2]
    exact this⟩
   have vo : VOS ls[i] := ⟨xo _ (List.getElem_mem hi)⟩
   walk_at "rd"
   refine ⟨?_, _, rfl⟩
   rw [List.take_add_one, hl]
   simp only [List.map_append, Option.toList_some, List.map_cons, List.map_nil]
  ·rintro ys σ H' ⟨rfl, rfl, _⟩
   rw [List.length_map, ← ll, List.take_length]
   intro D hD
   have g2 : upd H' D (.lst ((ls.map (wL S)).map V.int)) D = some (.lst ((ls.map (wL S)).map V.int)) := zaah
   have c2 := c1.trans (Ch.new hD (.lst ((ls.map (wL S)).map V.int)))
   have ar2 : Arity wo (ls.map (wL S)).length := by rw [List.length_map]; exact ar
   have q : ∀ H', Ch [] H H' → Q (.int (if 0 ∈ ls.map (wL S) then 0 else wW wo (ls.map (wL S)))) H' := q
   generalize ls.map (wL S) = ws at g2 c2 ar2 q ⊢
   obtain ⟨H2, e2⟩ : ∃ H2, upd H' D (.lst (ws.map V.int)) = H2 := ⟨_, rfl⟩
   rw [e2] at g2 c2 ⊢
   clear e2 hD
   have bq : ArS wo ws.length := ⟨ar2⟩
   have fl : (ws.map V.int).all flatV = true := by simp [flatV]
   walk_at "rd"
   rw [if_neg (by decide), zaoq]
   by_cases h0 : (0 : Int) ∈ ws
   ·rw [decide_eq_true h0]
    rw [if_pos h0] at q
    walk_at "rd"
    exact q _ c2
   ·rw [decide_eq_false h0]
    rw [if_neg h0] at q
    walk_at "rd"
    rename_i H3 c3
    exact q _ (c2.trans c3)
end
end

section
local macro_rules | `(tactic| walk_at "user") => `(tactic| first
 | (apply zafr; walk_at "get")
 | (apply zab9; (focus walk_at "get"); (focus with_reducible assumption))
 | (apply zace; (focus walk_at "get"); (focus with_reducible assumption))
 | (apply dputS; (focus walk_at "get"); (focus with_reducible assumption)))
inductive Rw9
 | inn (n : Str) (w : Int)
 | keep (n : Str) (w f : Int)
 | lt (n : Str) (e : Ex9)
 | use (n m : Str)
 | nxt (n : Str) (e : Ex9)
 | out (n : Str) (e : Ex9)
def RwAt (H : Hp) (p : Addr) : Rw9 → Prop
 | .inn n w => H p = some (.tup [.str "in", .str n, .int w])
 | .keep n w f => H p = some (.tup [.str "keep", .str n, .int w, .int f]) ∧ w ≤ 10000
 | .lt n e => ∃ q, H p = some (.tup [.str "let", .str n, .ref q]) ∧ ExS H q e
 | .use n m => ∃ q, H p = some (.tup [.str "use", .str n, .str m, .ref q]) ∧ H q = some (.tup [])
 | .nxt n e => ∃ q, H p = some (.tup [.str "next", .str n, .ref q]) ∧ ExS H q e
 | .out n e => ∃ q, H p = some (.tup [.str "out", .str n, .ref q]) ∧ ExS H q e
theorem ExS.tu {H H' : Hp} (k : Tu H H') {p : Addr} {e : Ex9} (h : ExS H p e) : ExS H' p e := ⟨h.h.tu k, h.v⟩
theorem RwAt.tu {H H' : Hp} (k : Tu H H') {p : Addr} {r : Rw9} (h : RwAt H p r) : RwAt H' p r := by
 cases r with
 | inn n w => exact k _ _ h
 | keep n w f => exact ⟨k _ _ h.1, h.2⟩
 | lt n e => obtain ⟨q, a, b⟩ := h; exact ⟨q, k _ _ a, b.tu k⟩
 | use n m => obtain ⟨q, a, b⟩ := h; exact ⟨q, k _ _ a, k _ _ b⟩
 | nxt n e => obtain ⟨q, a, b⟩ := h; exact ⟨q, k _ _ a, b.tu k⟩
 | out n e => obtain ⟨q, a, b⟩ := h; exact ⟨q, k _ _ a, b.tu k⟩
structure RwS (H : Hp) (p : Addr) (r : Rw9) : Prop where
 h : RwAt H p r
def rwW : Rw9 → Str
 | .inn _ _ => "in"
 | .keep _ _ _ => "keep"
 | .lt _ _ => "let"
 | .use _ _ => "use"
 | .nxt _ _ => "next"
 | .out _ _ => "out"
def free (S : S9) (n : Str) : Bool := (S.wd.lookup n).isNone && (S.us.lookup n).isNone
def take (hs : List (Str × Int)) (S : S9) : Rw9 → Option S9
 | .inn n w => if free S n && isW w then some { S with wd := S.wd ++ [(n, w)], ic := S.ic + 1 } else none
 | .keep n w f => if free S n && ofW f w then some { S with wd := S.wd ++ [(n, w)], kp := S.kp ++ [n] } else none
 | .lt n e => if free S n && decide (wE S e ≠ 0) then some { S with wd := S.wd ++ [(n, wE S e)] } else none
 | .use n m => match hs.lookup m with
  | none => none
  | some k => if free S n then some { S with us := S.us ++ [(n, k)] } else none
 | .nxt n e => if n ∈ S.kp ∧ n ∉ S.nx ∧ wE S e = (S.wd.lookup n).getD 0 then some { S with nx := S.nx ++ [n] } else none
 | .out n e => if (S.ot.lookup n).isNone && decide (wE S e ≠ 0) then some { S with ot := S.ot ++ [(n, wE S e)] } else none
structure TkR (m : Nat) (CS : Addr) (H0 H : Hp) (x : Addr) (hs : List (Str × Int)) (S : S9) (r : Rw9) (b : Bool) (H' : Hp) : Prop where
 tu : Tu H H'
 y : b = true → ∃ S', take hs S r = some S' ∧ SnAt (m + 1) CS H0 H' x hs S'
 n : b = false → take hs S r = none ∧ SnAt m CS H0 H' x hs S
theorem zacf {α β : Type} {R : α → β → Prop} {x : α} {y : β} (h : R x y) : ∀ {xs : List α} {ys : List β}, Paired R xs ys → Paired R (xs ++ [x]) (ys ++ [y])
 | _, _, .nil => .cons h .nil
 | _, _, .cons a t => .cons a (zacf h t)
theorem zai8 {l : List (Str × Int)} {n : Str} (h : l.lookup n = none) (v : Int) : putK (kI l) (.inr n) (.int v) = kI (l ++ [(n, v)]) := by
 rw [zae8 _ (by rw [zafs, h]; rfl)]
 simp [kI]
theorem zam5 {l : List Str} {n : Str} (h : n ∉ l) : putK (kB l) (.inr n) (.bl true) = kB (l ++ [n]) := by
 rw [zae8 _ (by rw [zaky, if_neg h])]
 simp [kB]
theorem zami {l : List (Str × Int)} {n a : Str} {v : Int} (h : (l.lookup n).isSome = true) : ((l ++ [(a, v)]).lookup n).isSome = true := by
 rw [List.lookup_append]
 cases e : l.lookup n with
 | none => rw [e] at h; cases h
 | some x => rfl
theorem SnF.up {m m' : Nat} {CS : Addr} {H0 H : Hp} {x : Addr} {hs : List (Str × Int)} {S : S9} {dx ab il wd us kp nx ot : Addr} {ys : List V} {uk ak : List (Key × V)} (f : SnF m CS H0 H x hs S dx ab il wd us kp nx ot ys uk ak) (h : m ≤ m') (h' : m' ≤ 1000) : SnF m' CS H0 H x hs S dx ab il wd us kp nx ot ys uk ak :=
 ⟨f.c, f.o, f.i, f.w, f.u, f.k, f.n, f.t, f.ua, f.a0, f.aa, f.fr, f.nd, f.sub, by have := f.z; omega, h', f.yc⟩
theorem SnF.ch {m : Nat} {CS : Addr} {H0 H H' : Hp} {x : Addr} {hs : List (Str × Int)} {S : S9} {dx ab il wd us kp nx ot : Addr} {ys : List V} {uk ak : List (Key × V)} (f : SnF m CS H0 H x hs S dx ab il wd us kp nx ot ys uk ak) (c : Ch [] H H') : SnF m CS H0 H' x hs S dx ab il wd us kp nx ot ys uk ak :=
 ⟨f.c.trans c, c.get f.o (by simp), c.get f.i (by simp), c.get f.w (by simp), c.get f.u (by simp), c.get f.k (by simp), c.get f.n (by simp), c.get f.t (by simp), f.ua, f.a0, f.aa, f.fr, f.nd, f.sub, f.z, f.zm, f.yc⟩
theorem SnF.setI {m : Nat} {CS : Addr} {H0 H : Hp} {x : Addr} {hs : List (Str × Int)} {S : S9} {dx ab il wd us kp nx ot : Addr} {ys : List V} {uk ak : List (Key × V)} (f : SnF m CS H0 H x hs S dx ab il wd us kp nx ot ys uk ak) (v : V) (hl : ys.length + 1 ≤ m) :
  SnF m CS H0 (upd H il (.lst (ys ++ [v]))) x hs { S with ic := S.ic + 1 } dx ab il wd us kp nx ot (ys ++ [v]) uk ak := ⟨Ch.own f.fr.1 f.c, zabc (zacc f.o f.i (by intro z; cases z)) f.o, zaah, zabc (zacc f.w f.i (by intro z; cases z)) f.w, zabc (zacc f.u f.i (by intro z; cases z)) f.u, zabc (zacc f.k f.i (by intro z; cases z)) f.k, zabc (zacc f.n f.i (by intro z; cases z)) f.n, zabc (zacc f.t f.i (by intro z; cases z)) f.t, f.ua, f.a0, f.aa, f.fr, f.nd, f.sub, by have := f.z; simp only [List.length_append, List.length_singleton]; omega, f.zm, by rw [List.length_append, f.yc]; rfl⟩
theorem SnF.setW {m : Nat} {CS : Addr} {H0 H : Hp} {x : Addr} {hs : List (Str × Int)} {S : S9} {dx ab il wd us kp nx ot : Addr} {ys : List V} {uk ak : List (Key × V)} (f : SnF m CS H0 H x hs S dx ab il wd us kp nx ot ys uk ak) (n : Str) (v : Int) (hl : S.wd.length + 1 ≤ m) :
  SnF m CS H0 (upd H wd (.dK (kI (S.wd ++ [(n, v)])))) x hs { S with wd := S.wd ++ [(n, v)] } dx ab il wd us kp nx ot ys uk ak := ⟨Ch.own f.fr.2.1 f.c, zabc (zacc f.o f.w (by intro z; cases z)) f.o, zabc (zacc f.i f.w (by intro z; cases z)) f.i, zaah, zabc (f.nd.1).symm f.u, zabc (f.nd.2.1).symm f.k, zabc (f.nd.2.2.1).symm f.n, zabc (f.nd.2.2.2.1).symm f.t, f.ua, f.a0, f.aa, f.fr, f.nd, fun a ha => zami (f.sub a ha), by have := f.z; simp only [List.length_append, List.length_singleton]; omega, f.zm, f.yc⟩
theorem SnF.setU {m : Nat} {CS : Addr} {H0 H : Hp} {x : Addr} {hs : List (Str × Int)} {S : S9} {dx ab il wd us kp nx ot : Addr} {ys : List V} {uk ak : List (Key × V)} (f : SnF m CS H0 H x hs S dx ab il wd us kp nx ot ys uk ak) (n : Str) (v : Int) (q : Addr) (hq : Hlp CS H0 q v) (hl : S.us.length + 1 ≤ m) :
  SnF m CS H0 (upd H us (.dK (uk ++ [(.inr n, .ref q)]))) x hs { S with us := S.us ++ [(n, v)] } dx ab il wd us kp nx ot ys (uk ++ [(.inr n, .ref q)]) ak := ⟨Ch.own f.fr.2.2.1 f.c, zabc (zacc f.o f.u (by intro z; cases z)) f.o, zabc (zacc f.i f.u (by intro z; cases z)) f.i, zabc f.nd.1 f.w, zaah, zabc (f.nd.2.2.2.2.1).symm f.k, zabc (f.nd.2.2.2.2.2.1).symm f.n, zabc (f.nd.2.2.2.2.2.2.1).symm f.t, zacf ⟨rfl, q, rfl, hq⟩ f.ua, f.a0, f.aa, f.fr, f.nd, f.sub, by have := f.z; simp only [List.length_append, List.length_singleton]; omega, f.zm, f.yc⟩
theorem SnF.setK {m : Nat} {CS : Addr} {H0 H : Hp} {x : Addr} {hs : List (Str × Int)} {S : S9} {dx ab il wd us kp nx ot : Addr} {ys : List V} {uk ak : List (Key × V)} (f : SnF m CS H0 H x hs S dx ab il wd us kp nx ot ys uk ak) (n : Str) (hn : (S.wd.lookup n).isSome = true) (hl : S.kp.length + 1 ≤ m) :
  SnF m CS H0 (upd H kp (.dK (kB (S.kp ++ [n])))) x hs { S with kp := S.kp ++ [n] } dx ab il wd us kp nx ot ys uk ak := ⟨Ch.own f.fr.2.2.2.1 f.c, zabc (zacc f.o f.k (by intro z; cases z)) f.o, zabc (zacc f.i f.k (by intro z; cases z)) f.i, zabc f.nd.2.1 f.w, zabc f.nd.2.2.2.2.1 f.u, zaah, zabc (f.nd.2.2.2.2.2.2.2.1).symm f.n, zabc (f.nd.2.2.2.2.2.2.2.2.1).symm f.t, f.ua, f.a0, f.aa, f.fr, f.nd, fun a ha => (List.mem_append.mp ha).elim (f.sub a) (fun h => by rw [List.mem_singleton.mp h]; exact hn), by have := f.z; simp only [List.length_append, List.length_singleton]; omega, f.zm, f.yc⟩
theorem SnF.setN {m : Nat} {CS : Addr} {H0 H : Hp} {x : Addr} {hs : List (Str × Int)} {S : S9} {dx ab il wd us kp nx ot : Addr} {ys : List V} {uk ak : List (Key × V)} (f : SnF m CS H0 H x hs S dx ab il wd us kp nx ot ys uk ak) (n : Str) (hl : S.nx.length + 1 ≤ m) :
  SnF m CS H0 (upd H nx (.dK (kB (S.nx ++ [n])))) x hs { S with nx := S.nx ++ [n] } dx ab il wd us kp nx ot ys uk ak := ⟨Ch.own f.fr.2.2.2.2.1 f.c, zabc (zacc f.o f.n (by intro z; cases z)) f.o, zabc (zacc f.i f.n (by intro z; cases z)) f.i, zabc f.nd.2.2.1 f.w, zabc f.nd.2.2.2.2.2.1 f.u, zabc f.nd.2.2.2.2.2.2.2.1 f.k, zaah, zabc (f.nd.2.2.2.2.2.2.2.2.2).symm f.t, f.ua, f.a0, f.aa, f.fr, f.nd, f.sub, by have := f.z; simp only [List.length_append, List.length_singleton]; omega, f.zm, f.yc⟩
theorem SnF.setT {m : Nat} {CS : Addr} {H0 H : Hp} {x : Addr} {hs : List (Str × Int)} {S : S9} {dx ab il wd us kp nx ot : Addr} {ys : List V} {uk ak : List (Key × V)} (f : SnF m CS H0 H x hs S dx ab il wd us kp nx ot ys uk ak) (n : Str) (v : Int) (hl : S.ot.length + 1 ≤ m) :
  SnF m CS H0 (upd H ot (.dK (kI (S.ot ++ [(n, v)])))) x hs { S with ot := S.ot ++ [(n, v)] } dx ab il wd us kp nx ot ys uk ak := ⟨Ch.own f.fr.2.2.2.2.2 f.c, zabc (zacc f.o f.t (by intro z; cases z)) f.o, zabc (zacc f.i f.t (by intro z; cases z)) f.i, zabc f.nd.2.2.2.1 f.w, zabc f.nd.2.2.2.2.2.2.1 f.u, zabc f.nd.2.2.2.2.2.2.2.2.1 f.k, zabc f.nd.2.2.2.2.2.2.2.2.2 f.n, zaah, f.ua, f.a0, f.aa, f.fr, f.nd, f.sub, by have := f.z; simp only [List.length_append, List.length_singleton]; omega, f.zm, f.yc⟩
theorem zak1 {H : Hp} {a : Addr} {xs : List V} {o : HO} (h : H a = some (.lst xs)) : Tu H (upd H a o) := Tu.lst Ch.put h
theorem zaig {H : Hp} {a : Addr} {kvs : List (Key × V)} {o : HO} (h : H a = some (.dK kvs)) : Tu H (upd H a o) := Tu.ch Ch.put h (fun xs z => by cases z)
theorem zai9 {S : S9} {n : Str} (h : free S n = true) : S.wd.lookup n = none ∧ S.us.lookup n = none := by
 simp [free] at h
 exact ⟨by simpa using h.1, by simpa using h.2⟩
section
variable {P : Program} {w : World} {K : PySem.W.Frag} {mg : Str → Option Value} {base : Heap} {f : Addr} {fd : FuncData} {k : Nat}
theorem zad0 : Nd "is_free" := by decide +kernel
theorem av12 : AF (defScope (top 12)) ["sense", "name"] := ⟨by decide +kernel⟩
def spFree (CS : Addr) : Sp := fun vs H Q _ => ∃ (m : Nat) (H0 : Hp) (x : Addr) (hs : List (Str × Int)) (S : S9) (n : Str), vs = [.ref x, .str n] ∧ SnAt m CS H0 H x hs S ∧ Q (.bl (free S n)) H
theorem scFree : FnScope ["sense", "name"] ["sense", "name"] (defScope (top 12)) := ⟨rfl, rfl, rfl, by decide +kernel, rfl, by decide +kernel, by decide +kernel⟩
theorem zaor {CS : Addr} (F : Fun K "is_free" "is_free" (top 12) f fd) (cl : Cls K CS) (nW : NoAttr K CS "wides") (nU : NoAttr K CS "uses") : FnOk P w K mg base CX0 (k + 1) f fd ["sense", "name"] (spFree CS) := by
 have nd := scFree.nd
 refine F.ok scFree (fun vs H Q E h => by obtain ⟨m, H0, x, hs, S, n, rfl, _⟩ := h; rfl) (fun cdv A outer s H vs Q E hr h => ?_)
 obtain ⟨m, H0, x, hs, S, n, rfl, sn, q⟩ := h
 have hu := zac8 hr
 refine ⟨_, (Pr.h (zaaf (zaaj (zabw (zagd hu (qv av12 1 rfl) (zaa9 (qv av12 0 rfl) rfl)) (zab3 (zagd hu (qv av12 1 rfl) (zaa9 (qv av12 0 rfl) rfl))))))), ?_⟩
 (try dsimp only [cxOf])
 obtain ⟨dx, ab, il, wd, us, kp, nx, ot, ys, uk, ak, sf⟩ := sn.ex
 have so := sf.o
 have su := sf.u
 have sw := sf.w
 have fu := fS_u ab il wd us kp nx ot
 have fw := fS_w ab il wd us kp nx ot
 have ev := zafs S.wd n
 have q : Q (.bl ((S.wd.lookup n).isNone && (S.us.lookup n).isNone)) H := q
 cases el : S.wd.lookup n with
 | some v => rw [el] at q ev; have ev : valV (kI S.wd) (.inr n) = some (.int v) := ev; walk_at "rd"; exact q
 | none =>
  rw [el] at q ev
  have ev : valV (kI S.wd) (.inr n) = none := ev
  rcases zaft sf.ua n with ⟨e1, e2⟩ | ⟨wi, u, e1, e2, hl⟩
  ·rw [e1] at q; walk_at "rd"; exact q
  ·rw [e1] at q; walk_at "rd"; exact q
theorem gl13 : AG (defScope (top 13)) ["is_wide", "is_free"] := ⟨by decide +kernel⟩
theorem av13 : AF (defScope (top 13)) ["sense", "row"] := ⟨by decide +kernel⟩
def spT (wo : Str) (CS : Addr) : Sp := fun vs H Q _ => ∃ (m : Nat) (H0 : Hp) (x p : Addr) (hs : List (Str × Int)) (S : S9) (r : Rw9), vs = [.ref x, .ref p] ∧ SnAt m CS H0 H x hs S ∧ m < 1000 ∧ RwS H p r ∧ rwW r = wo ∧ ∀ b H', TkR m CS H0 H x hs S r b H' → Q (.bl b) H'
theorem scTin : FnScope ["sense", "row"] ["sense", "row"] (defScope (top 13)) := ⟨rfl, rfl, rfl, by decide +kernel, rfl, by decide +kernel, by decide +kernel⟩
theorem zaqn {CS : Addr} (F : Fun K "take_in" "take_in" (top 13) f fd) (cl : Cls K CS) (nW : NoAttr K CS "wides") (nI : NoAttr K CS "ins") (Dis_free : DefOk P w K mg base CX0 k "is_free" ["sense", "name"] (spFree CS)) (Dis_wide : DefOk P w K mg base CX0 k "is_wide" ["wide"] spIsW) : FnOk P w K mg base CX0 (k + 1) f fd ["sense", "row"] (spT "in" CS) := by
 have nd := scTin.nd
 refine F.ok scTin (fun vs H Q E h => by obtain ⟨m, H0, x, p, hs, S, r, rfl, _⟩ := h; rfl) (fun cdv A outer s H vs Q E hr h => ?_)
 obtain ⟨m, H0, x, p, hs, S, r, rfl, sn, m1, ⟨ra⟩, ew, q⟩ := h
 have hu := zac8 hr
 refine ⟨_, (Pr.h (zaad (zaaw (zab5 (zab8 (zacd (zaba (zaar Dis_free hr (gl13.g 1 rfl) pass0 (zaaa (qv av13 0 rfl) (zaaa (zaal zaat (qv av13 1 rfl) zaab (fun _ _ => rfl)) zaac zaas) zaag) zad0))) (zabz (zacd (zaba (zaar Dis_wide hr (gl13.g 0 rfl) pass0 (zaaa (zaal zaat (qv av13 1 rfl) zaab (fun _ _ => rfl)) zaac zaas) zaep)))))) (zaaf (zaaj zabm)) zaak) (zaad (zada (zaf9 PySem.F.plainAttrs_list PySem.F.slot_list_append PySem.F.type_list_append zad5 (zaa9 (qv av13 0 rfl) rfl) (zaaa (zaa4 (zaaa (zaal zaat (qv av13 1 rfl) zaab (fun _ _ => rfl)) (zaaa (zaal zaat (qv av13 1 rfl) zaab (fun _ _ => rfl)) zaac zaas) zaas)) zaac zaa8))) (zaad (zacm hu (zaa9 (qv av13 0 rfl) rfl) (zaal zaat (qv av13 1 rfl) zaab (fun _ _ => rfl)) (zaal zaat (qv av13 1 rfl) zaab (fun _ _ => rfl)) rfl) (zaaf (zaaj zabm)))))), ?_⟩
 (try dsimp only [cxOf])
 cases r with
 | inn n wi =>
  have ra : H p = some (.tup [.str "in", .str n, .int wi]) := ra
  walk_at "rd"
  cases hf : free S n with
  | false =>
   have no : take hs S (.inn n wi) = none := by simp [take, hf]
   walk_at "rd"
   exact q false _ ⟨Tu.refl _, fun z => (by cases z), fun _ => ⟨no, sn⟩⟩
  | true =>
   walk_at "rd"
   cases hw : isW wi with
   | false =>
    have no : take hs S (.inn n wi) = none := by simp [take, hf, hw]
    walk_at "rd"
    exact q false _ ⟨Tu.refl _, fun z => (by cases z), fun _ => ⟨no, sn⟩⟩
   | true =>
    have yes : take hs S (.inn n wi) = some { S with wd := S.wd ++ [(n, wi)], ic := S.ic + 1 } := by simp [take, hf, hw]
    obtain ⟨f1, f2⟩ := zai9 hf
    obtain ⟨dx, ab, il, wd, us, kp, nx, ot, ys, uk, ak, sf⟩ := sn.ex
    have so := sf.o
    have si := sf.i
    have sw := sf.w
    have fi := fS_i ab il wd us kp nx ot
    have fw := fS_w ab il wd us kp nx ot
    have z := sf.z
    have zm := sf.zm
    have lk : (kI S.wd).length < sizeLine := by rw [sizeLine_eq]; simp [kI]; omega
    have ly : ys.length < sizeLine := by rw [sizeLine_eq]; omega
    walk_at "rd"
    rename_i T hT
    rw [zai8 f1]
    have f3 := ((sf.up (Nat.le_succ m) m1).ch (Ch.new hT (.tup [.str n, .int wi]))).setI (.ref T) (by omega)
    refine q true _ ⟨((Tu.new _ hT).trans (zak1 (zaa6 hT si))).trans (zaig f3.w), fun _ => ⟨_, yes, dx, ab, il, wd, us, kp, nx, ot, _, uk, ak, f3.setW n wi (by show S.wd.length + 1 ≤ m + 1; omega)⟩, fun z => (by cases z)⟩
 | keep n w f => cases ew
 | lt n e => cases ew
 | use n m => cases ew
 | nxt n e => cases ew
 | out n e => cases ew
end
end

section
local macro_rules | `(tactic| walk_at "user") => `(tactic| first
 | (apply zafr; walk_at "get")
 | (apply zab9; (focus walk_at "get"); (focus with_reducible assumption))
 | (apply zace; (focus walk_at "get"); (focus with_reducible assumption))
 | (apply dputS; (focus walk_at "get"); (focus with_reducible assumption)))
section
variable {P : Program} {w : World} {K : PySem.W.Frag} {mg : Str → Option Value} {base : Heap} {f : Addr} {fd : FuncData} {k : Nat}
theorem gl14 : AG (defScope (top 14)) ["is_of_width", "is_free"] := ⟨by decide +kernel⟩
theorem av14 : AF (defScope (top 14)) ["sense", "row"] := ⟨by decide +kernel⟩
theorem scTke : FnScope ["sense", "row"] ["sense", "row"] (defScope (top 14)) := ⟨rfl, rfl, rfl, by decide +kernel, rfl, by decide +kernel, by decide +kernel⟩
theorem zaqo {CS : Addr} (F : Fun K "take_keep" "take_keep" (top 14) f fd) (cl : Cls K CS) (nW : NoAttr K CS "wides") (nK : NoAttr K CS "keepers") (Dis_free : DefOk P w K mg base CX0 k "is_free" ["sense", "name"] (spFree CS)) (Dis_of_width : DefOk P w K mg base CX0 k "is_of_width" ["value", "wide"] spOfW) : FnOk P w K mg base CX0 (k + 1) f fd ["sense", "row"] (spT "keep" CS) := by
 have nd := scTke.nd
 refine F.ok scTke (fun vs H Q E h => by obtain ⟨m, H0, x, p, hs, S, r, rfl, _⟩ := h; rfl) (fun cdv A outer s H vs Q E hr h => ?_)
 obtain ⟨m, H0, x, p, hs, S, r, rfl, sn, m1, ⟨ra⟩, ew, q⟩ := h
 have hu := zac8 hr
 refine ⟨_, (Pr.h (zaad (zaaw (zab5 (zab8 (zacd (zaba (zaar Dis_free hr (gl14.g 1 rfl) pass0 (zaaa (qv av14 0 rfl) (zaaa (zaal zaat (qv av14 1 rfl) zaab (fun _ _ => rfl)) zaac zaas) zaag) zad0))) (zabz (zacd (zaba (zaar Dis_of_width hr (gl14.g 0 rfl) pass0 (zaaa (zaal zaat (qv av14 1 rfl) zaab (fun _ _ => rfl)) (zaaa (zaal zaat (qv av14 1 rfl) zaab (fun _ _ => rfl)) zaac zaas) zaas) zac0)))))) (zaaf (zaaj zabm)) zaak) (zaad (zacm hu (zaa9 (qv av14 0 rfl) rfl) (zaal zaat (qv av14 1 rfl) zaab (fun _ _ => rfl)) zabm rfl) (zaad (zacm hu (zaa9 (qv av14 0 rfl) rfl) (zaal zaat (qv av14 1 rfl) zaab (fun _ _ => rfl)) (zaal zaat (qv av14 1 rfl) zaab (fun _ _ => rfl)) rfl) (zaaf (zaaj zabm)))))), ?_⟩
 (try dsimp only [cxOf])
 cases r with
 | keep n wi fi =>
  obtain ⟨ra, w1⟩ := ra
  walk_at "rd"
  cases hf : free S n with
  | false =>
   have no : take hs S (.keep n wi fi) = none := by simp [take, hf]
   walk_at "rd"
   exact q false _ ⟨Tu.refl _, fun z => (by cases z), fun _ => ⟨no, sn⟩⟩
  | true =>
   walk_at "rd"
   cases hw : ofW fi wi with
   | false =>
    have no : take hs S (.keep n wi fi) = none := by simp [take, hf, hw]
    walk_at "rd"
    exact q false _ ⟨Tu.refl _, fun z => (by cases z), fun _ => ⟨no, sn⟩⟩
   | true =>
    have yes : take hs S (.keep n wi fi) = some { S with wd := S.wd ++ [(n, wi)], kp := S.kp ++ [n] } := by simp [take, hf, hw]
    obtain ⟨f1, f2⟩ := zai9 hf
    obtain ⟨dx, ab, il, wd, us, kp, nx, ot, ys, uk, ak, sf⟩ := sn.ex
    have so := sf.o
    have sk := sf.k
    have sw := sf.w
    have fk := fS_k ab il wd us kp nx ot
    have fw := fS_w ab il wd us kp nx ot
    have z := sf.z
    have zm := sf.zm
    have lk : (kI S.wd).length < sizeLine := by rw [sizeLine_eq]; simp [kI]; omega
    have lb : (kB S.kp).length < sizeLine := by rw [sizeLine_eq]; simp [kB]; omega
    have nn : n ∉ S.kp := fun hn => by have := sf.sub n hn; rw [f1] at this; cases this
    have ne := sf.nd.2.1
    walk_at "rd"
    rw [zai8 f1, zam5 nn]
    have fa := (sf.up (Nat.le_succ m) m1).setW n wi (by omega)
    have hn : ((S.wd ++ [(n, wi)]).lookup n).isSome = true := by rw [List.lookup_append, f1]; simp [List.lookup_cons]
    have fb := fa.setK n hn (by show S.kp.length + 1 ≤ m + 1; omega)
    have eq : upd (upd H wd (.dK (kI (S.wd ++ [(n, wi)])))) kp (.dK (kB (S.kp ++ [n]))) = upd (upd H kp (.dK (kB (S.kp ++ [n])))) wd (.dK (kI (S.wd ++ [(n, wi)]))) := by
     funext a
     by_cases a1 : a = wd
     ·subst a1; rw [zaah, zaav ne, zaah]
     ·by_cases a2 : a = kp
      ·subst a2; rw [zaah, zaav a1, zaah]
      ·rw [zaav a1, zaav a2, zaav a2, zaav a1]
    have fb : SnF (m + 1) CS H0 (upd (upd H kp (.dK (kB (S.kp ++ [n])))) wd (.dK (kI (S.wd ++ [(n, wi)])))) x hs { S with wd := S.wd ++ [(n, wi)], kp := S.kp ++ [n] } dx ab il wd us kp nx ot ys uk ak := eq ▸ fb
    exact q true _ ⟨(zaig sk).trans (zaig (zabc ne sw)), fun _ => ⟨_, yes, dx, ab, il, wd, us, kp, nx, ot, _, uk, ak, fb⟩, fun z => (by cases z)⟩
 | inn n w => cases ew
 | lt n e => cases ew
 | use n m => cases ew
 | nxt n e => cases ew
 | out n e => cases ew
theorem av15 : AF (defScope (top 15)) ["sense", "row", "wide"] := ⟨by decide +kernel⟩
theorem gl15 : AG (defScope (top 15)) ["wide_of", "is_free"] := ⟨by decide +kernel⟩
theorem scTle : FnScope ["sense", "row", "wide"] ["sense", "row"] (defScope (top 15)) := ⟨rfl, rfl, rfl, by decide +kernel, rfl, by decide +kernel, by decide +kernel⟩
theorem zaqp {CS : Addr} (F : Fun K "take_let" "take_let" (top 15) f fd) (cl : Cls K CS) (nW : NoAttr K CS "wides") (Dis_free : DefOk P w K mg base CX0 k "is_free" ["sense", "name"] (spFree CS)) (Dwide_of : DefOk P w K mg base CX0 k "wide_of" ["sense", "expr"] (spWE CS)) : FnOk P w K mg base CX0 (k + 1) f fd ["sense", "row"] (spT "let" CS) := by
 have nd := scTle.nd
 refine F.ok scTle (fun vs H Q E h => by obtain ⟨m, H0, x, p, hs, S, r, rfl, _⟩ := h; rfl) (fun cdv A outer s H vs Q E hr h => ?_)
 obtain ⟨m, H0, x, p, hs, S, r, rfl, sn, m1, ⟨ra⟩, ew, q⟩ := h
 have hu := zac8 hr
 refine ⟨_, (Pr.h (zaad (zaa1 (i := 2) nd rfl (av15.l 2 rfl) (zaar Dwide_of hr (gl15.g 0 rfl) pass0 (zaaa (qv av15 0 rfl) (zaaa (zaal zaat (qv av15 1 rfl) zaab (fun _ _ => rfl)) zaac zaas) zaag) zaca)) (zaad (zaaw (zab5 (zab8 (zacd (zaba (zaar Dis_free hr (gl15.g 1 rfl) pass0 (zaaa (qv av15 0 rfl) (zaaa (zaal zaat (qv av15 1 rfl) zaab (fun _ _ => rfl)) zaac zaas) zaag) zad0))) (zabz (zaaq zabg (qv av15 2 rfl) zaab (nomark _))))) (zaaf (zaaj zabm)) zaak) (zaad (zacm hu (zaa9 (qv av15 0 rfl) rfl) (zaal zaat (qv av15 1 rfl) zaab (fun _ _ => rfl)) (qv av15 2 rfl) rfl) (zaaf (zaaj zabm)))))), ?_⟩
 (try dsimp only [cxOf])
 cases r with
 | lt n e =>
  obtain ⟨pe, ra, xa⟩ := ra
  walk_at "rd"
  rename_i H1 c1
  have sn1 := sn.ch c1
  have ra1 := c1.get ra (by simp)
  walk_at "rd"
  cases hf : free S n with
  | false =>
   have no : take hs S (.lt n e) = none := by simp [take, hf]
   walk_at "rd"
   exact q false _ ⟨Tu.same c1, fun z => (by cases z), fun _ => ⟨no, sn1⟩⟩
  | true =>
   walk_at "rd"
   refine ite2 (fun h0 => ?_) (fun h0 => ?_)
   ·have h0 : wE S e = 0 := by simpa using h0
    have no : take hs S (.lt n e) = none := by simp [take, h0]
    walk_at "rd"
    exact q false _ ⟨Tu.same c1, fun z => (by cases z), fun _ => ⟨no, sn1⟩⟩
   ·have h0 : wE S e ≠ 0 := by simpa using h0
    have yes : take hs S (.lt n e) = some { S with wd := S.wd ++ [(n, wE S e)] } := by simp [take, hf, h0]
    obtain ⟨f1, f2⟩ := zai9 hf
    obtain ⟨dx, ab, il, wd, us, kp, nx, ot, ys, uk, ak, sf⟩ := sn1.ex
    have so := sf.o
    have sw := sf.w
    have fw := fS_w ab il wd us kp nx ot
    have z := sf.z
    have zm := sf.zm
    have lk : (kI S.wd).length < sizeLine := by rw [sizeLine_eq]; simp [kI]; omega
    walk_at "rd"
    rw [zai8 f1]
    exact q true _ ⟨(Tu.same c1).trans (zaig sw), fun _ => ⟨_, yes, dx, ab, il, wd, us, kp, nx, ot, _, uk, ak, (sf.up (Nat.le_succ m) m1).setW n _ (by omega)⟩, fun z => (by cases z)⟩
 | inn n w => cases ew
 | keep n w f => cases ew
 | use n m => cases ew
 | nxt n e => cases ew
 | out n e => cases ew
theorem av18 : AF (defScope (top 18)) ["sense", "row", "wide"] := ⟨by decide +kernel⟩
theorem gl18 : AG (defScope (top 18)) ["wide_of"] := ⟨by decide +kernel⟩
theorem scTou : FnScope ["sense", "row", "wide"] ["sense", "row"] (defScope (top 18)) := ⟨rfl, rfl, rfl, by decide +kernel, rfl, by decide +kernel, by decide +kernel⟩
theorem zaqq {CS : Addr} (F : Fun K "take_out" "take_out" (top 18) f fd) (cl : Cls K CS) (nO : NoAttr K CS "outs") (Dwide_of : DefOk P w K mg base CX0 k "wide_of" ["sense", "expr"] (spWE CS)) : FnOk P w K mg base CX0 (k + 1) f fd ["sense", "row"] (spT "out" CS) := by
 have nd := scTou.nd
 refine F.ok scTou (fun vs H Q E h => by obtain ⟨m, H0, x, p, hs, S, r, rfl, _⟩ := h; rfl) (fun cdv A outer s H vs Q E hr h => ?_)
 obtain ⟨m, H0, x, p, hs, S, r, rfl, sn, m1, ⟨ra⟩, ew, q⟩ := h
 have hu := zac8 hr
 refine ⟨_, (Pr.h (zaad (zaa1 (i := 2) nd rfl (av18.l 2 rfl) (zaar Dwide_of hr (gl18.g 0 rfl) pass0 (zaaa (qv av18 0 rfl) (zaaa (zaal zaat (qv av18 1 rfl) zaab (fun _ _ => rfl)) zaac zaas) zaag) zaca)) (zaad (zaaw (zab5 (zab8 (zaif hu (zaal zaat (qv av18 1 rfl) zaab (fun _ _ => rfl)) (zaa9 (qv av18 0 rfl) rfl)) (zabz (zaaq zabg (qv av18 2 rfl) zaab (nomark _))))) (zaaf (zaaj zabm)) zaak) (zaad (zacm hu (zaa9 (qv av18 0 rfl) rfl) (zaal zaat (qv av18 1 rfl) zaab (fun _ _ => rfl)) (qv av18 2 rfl) rfl) (zaaf (zaaj zabm)))))), ?_⟩
 (try dsimp only [cxOf])
 cases r with
 | out n e =>
  obtain ⟨pe, ra, xa⟩ := ra
  have sn0 := sn
  obtain ⟨dx, ab, il, wd, us, kp, nx, ot, ys, uk, ak, sf⟩ := sn.ex
  have so := sf.o
  have st := sf.t
  have fo := fS_o ab il wd us kp nx ot
  have z := sf.z
  have zm := sf.zm
  have lk : (kI S.ot).length < sizeLine := by rw [sizeLine_eq]; simp [kI]; omega
  have ev := zafs S.ot n
  cases el : S.ot.lookup n with
  | some v =>
   rw [el] at ev
   have ev : valV (kI S.ot) (.inr n) = some (.int v) := ev
   have no : take hs S (.out n e) = none := by simp [take, el]
   walk_at "rd"
   rename_i H1 c1
   exact q false _ ⟨Tu.same c1, fun z => (by cases z), fun _ => ⟨no, sn0.ch c1⟩⟩
  | none =>
   rw [el] at ev
   have ev : valV (kI S.ot) (.inr n) = none := ev
   walk_at "rd"
   rename_i H1 c1
   have sf1 := sf.ch c1
   refine ite2 (fun h0 => ?_) (fun h0 => ?_)
   ·have h0 : wE S e = 0 := by simpa using h0
    have no : take hs S (.out n e) = none := by simp [take, h0]
    walk_at "rd"
    exact q false _ ⟨Tu.same c1, fun z => (by cases z), fun _ => ⟨no, sn0.ch c1⟩⟩
   ·have h0 : wE S e ≠ 0 := by simpa using h0
    have yes : take hs S (.out n e) = some { S with ot := S.ot ++ [(n, wE S e)] } := by simp [take, el, h0]
    walk_at "rd"
    rw [zai8 el]
    exact q true _ ⟨(Tu.same c1).trans (zaig sf1.t), fun _ => ⟨_, yes, dx, ab, il, wd, us, kp, nx, ot, _, uk, ak, (sf1.up (Nat.le_succ m) m1).setT n _ (by omega)⟩, fun z => (by cases z)⟩
 | inn n w => cases ew
 | keep n w f => cases ew
 | lt n e => cases ew
 | use n m => cases ew
 | nxt n e => cases ew
theorem av17 : AF (defScope (top 17)) ["sense", "row"] := ⟨by decide +kernel⟩
theorem gl17 : AG (defScope (top 17)) ["wide_of"] := ⟨by decide +kernel⟩
theorem scTne : FnScope ["sense", "row"] ["sense", "row"] (defScope (top 17)) := ⟨rfl, rfl, rfl, by decide +kernel, rfl, by decide +kernel, by decide +kernel⟩
theorem zaqr {CS : Addr} (F : Fun K "take_next" "take_next" (top 17) f fd) (cl : Cls K CS) (nW : NoAttr K CS "wides") (nK : NoAttr K CS "keepers") (nN : NoAttr K CS "nexts") (Dwide_of : DefOk P w K mg base CX0 k "wide_of" ["sense", "expr"] (spWE CS)) : FnOk P w K mg base CX0 (k + 1) f fd ["sense", "row"] (spT "next" CS) := by
 have nd := scTne.nd
 refine F.ok scTne (fun vs H Q E h => by obtain ⟨m, H0, x, p, hs, S, r, rfl, _⟩ := h; rfl) (fun cdv A outer s H vs Q E hr h => ?_)
 obtain ⟨m, H0, x, p, hs, S, r, rfl, sn, m1, ⟨ra⟩, ew, q⟩ := h
 have hu := zac8 hr
 refine ⟨_, (Pr.h (zaad (zaaw (zab5 (zab8 (zaeo hu (zaal zaat (qv av17 1 rfl) zaab (fun _ _ => rfl)) (zaa9 (qv av17 0 rfl) rfl)) (zabz (zaif hu (zaal zaat (qv av17 1 rfl) zaab (fun _ _ => rfl)) (zaa9 (qv av17 0 rfl) rfl))))) (zaaf (zaaj zabm)) zaak) (zaad (zaaw (zaaq zadh (zaar Dwide_of hr (gl17.g 0 rfl) pass0 (zaaa (qv av17 0 rfl) (zaaa (zaal zaat (qv av17 1 rfl) zaab (fun _ _ => rfl)) zaac zaas) zaag) zaca) (zafo hu (zaa9 (qv av17 0 rfl) rfl) (zaal zaat (qv av17 1 rfl) zaab (fun _ _ => rfl)) (fun _ _ => rfl)) (nomark _)) (zaaf (zaaj zabm)) zaak) (zaad (zacm hu (zaa9 (qv av17 0 rfl) rfl) (zaal zaat (qv av17 1 rfl) zaab (fun _ _ => rfl)) zabm rfl) (zaaf (zaaj zabm)))))), ?_⟩
 (try dsimp only [cxOf])
 cases r with
 | nxt n e =>
  obtain ⟨pe, ra, xa⟩ := ra
  have sn0 := sn
  obtain ⟨dx, ab, il, wd, us, kp, nx, ot, ys, uk, ak, sf⟩ := sn.ex
  have so := sf.o
  have sk := sf.k
  have sN := sf.n
  have sw := sf.w
  have fk := fS_k ab il wd us kp nx ot
  have fn := fS_n ab il wd us kp nx ot
  have fw := fS_w ab il wd us kp nx ot
  have z := sf.z
  have zm := sf.zm
  have lb : (kB S.nx).length < sizeLine := by rw [sizeLine_eq]; simp [kB]; omega
  have ek := zaky S.kp n
  have en := zaky S.nx n
  by_cases hk : n ∈ S.kp
  ·rw [if_pos hk] at ek
   by_cases hn : n ∈ S.nx
   ·rw [if_pos hn] at en
    have no : take hs S (.nxt n e) = none := by simp [take, hn]
    walk_at "rd"
    exact q false _ ⟨Tu.refl _, fun z => (by cases z), fun _ => ⟨no, sn0⟩⟩
   ·rw [if_neg hn] at en
    have hw := sf.sub n hk
    obtain ⟨v, el⟩ := Option.isSome_iff_exists.mp hw
    have ev : valV (kI S.wd) (.inr n) = some (.int v) := by rw [zafs, el]; rfl
    walk_at "rd"
    rename_i H1 c1
    have sn1 := sn0.ch c1
    have sf1 := sf.ch c1
    refine ite2 (fun h0 => ?_) (fun h0 => ?_)
    ·have h0 : ¬ wE S e = v := by simpa using h0
     have no : take hs S (.nxt n e) = none := by simp [take, el, h0]
     walk_at "rd"
     exact q false _ ⟨Tu.same c1, fun z => (by cases z), fun _ => ⟨no, sn1⟩⟩
    ·have h0 : wE S e = v := by simpa using h0
     have yes : take hs S (.nxt n e) = some { S with nx := S.nx ++ [n] } := by simp [take, el, h0, hk, hn]
     walk_at "rd"
     rw [zam5 hn]
     exact q true _ ⟨(Tu.same c1).trans (zaig sf1.n), fun _ => ⟨_, yes, dx, ab, il, wd, us, kp, nx, ot, _, uk, ak, (sf1.up (Nat.le_succ m) m1).setN n (by omega)⟩, fun z => (by cases z)⟩
  ·rw [if_neg hk] at ek
   have no : take hs S (.nxt n e) = none := by simp [take, hk]
   walk_at "rd"
   exact q false _ ⟨Tu.refl _, fun z => (by cases z), fun _ => ⟨no, sn0⟩⟩
 | inn n w => cases ew
 | keep n w f => cases ew
 | lt n e => cases ew
 | use n m => cases ew
 | out n e => cases ew
end
end

section
local macro_rules | `(tactic| walk_at "user") => `(tactic| first
 | (apply zafr; walk_at "get")
 | (apply zab9; (focus walk_at "get"); (focus with_reducible assumption))
 | (apply zace; (focus walk_at "get"); (focus with_reducible assumption))
 | (apply dputS; (focus walk_at "get"); (focus with_reducible assumption)))
section
variable {P : Program} {w : World} {K : PySem.W.Frag} {mg : Str → Option Value} {base : Heap} {f : Addr} {fd : FuncData} {k : Nat}
theorem av16 : AF (defScope (top 16)) ["sense", "row", "used"] := ⟨by decide +kernel⟩
theorem gl16 : AG (defScope (top 16)) ["is_free"] := ⟨by decide +kernel⟩
def zagw : Scope := { kind := PySem.ScopeKind.function, names := [ (PySem.Str.ofString ".0", PySem.NameKind.local), (PySem.Str.ofString "expr", PySem.NameKind.local), (PySem.Str.ofString "wide_of", PySem.NameKind.globalImplicit), (PySem.Str.ofString "sense", PySem.NameKind.free)], isGenerator := false, isCoroutine := false, more := [] : PySem.Scope }
theorem zak2 : CompOk zagw (defScope (top 16)) (["expr"] : List Str) (["sense", "row", "used"] : List Str) [0] (["expr", "sense"] : List Str) := compOk rfl (by decide +kernel) (by decide +kernel) (by decide +kernel) (by decide +kernel) rfl (by decide +kernel)
theorem zak3 : AK (relab zagw (defScope (top 16))) ["expr"] := ⟨by decide +kernel⟩
theorem zaos : AG (relab zagw (defScope (top 16))) ["wide_of"] := ⟨by decide +kernel⟩
theorem zak4 : AV (relab zagw (defScope (top 16))) ["expr", "sense"] := ⟨by decide +kernel⟩
def zaih : Scope := { kind := PySem.ScopeKind.function, names := [ (PySem.Str.ofString ".0", PySem.NameKind.local), (PySem.Str.ofString "name", PySem.NameKind.local), (PySem.Str.ofString "wide", PySem.NameKind.local)], isGenerator := false, isCoroutine := false, more := [] : PySem.Scope }
theorem zaii : CompOk zaih (defScope (top 16)) (["name", "wide"] : List Str) (["sense", "row", "used"] : List Str) [] (["name", "wide"] : List Str) := compOk rfl (by decide +kernel) (by decide +kernel) (by decide +kernel) (by decide +kernel) rfl (by decide +kernel)
theorem zagx : AK (relab zaih (defScope (top 16))) ["name", "wide"] := ⟨by decide +kernel⟩
theorem zaot : AV (relab zaih (defScope (top 16))) ["name", "wide"] := ⟨by decide +kernel⟩
theorem scTus : FnScope ["sense", "row", "used"] ["sense", "row"] (defScope (top 16)) := ⟨rfl, rfl, rfl, by decide +kernel, rfl, by decide +kernel, by decide +kernel⟩
theorem zaqs {CS : Addr} (F : Fun K "take_use" "take_use" (top 16) f fd) (cl : Cls K CS) (nU : NoAttr K CS "uses") (nA : NoAttr K CS "above") (nI : NoAttr K CS "ins") (Dis_free : DefOk P w K mg base CX0 k "is_free" ["sense", "name"] (spFree CS)) (Dwide_of : DefOk P w K mg base CX0 k "wide_of" ["sense", "expr"] (spWE CS)) : FnOk P w K mg base CX0 (k + 1) f fd ["sense", "row"] (spT "use" CS) := by
 have nd := scTus.nd
 refine F.ok scTus (fun vs H Q E h => by obtain ⟨m, H0, x, p, hs, S, r, rfl, _⟩ := h; rfl) (fun cdv A outer s H vs Q E hr h => ?_)
 obtain ⟨m, H0, x, p, hs, S, r, rfl, sn, m1, ⟨ra⟩, ew, q⟩ := h
 have hu := zac8 hr
 refine ⟨_, (Pr.h (zaad (zaaw (zab5 (zab8 (zacd (zaba (zaar Dis_free hr (gl16.g 0 rfl) pass0 (zaaa (qv av16 0 rfl) (zaaa (zaal zaat (qv av16 1 rfl) zaab (fun _ _ => rfl)) zaac zaas) zaag) zad0))) (zabz (zaeo hu (zaal zaat (qv av16 1 rfl) zaab (fun _ _ => rfl)) (zaa9 (qv av16 0 rfl) rfl))))) (zaaf (zaaj zabm)) zaak) (zaad (zaa1 (i := 2) nd rfl (av16.l 2 rfl) (zafo hu (zaa9 (qv av16 0 rfl) rfl) (zaal zaat (qv av16 1 rfl) zaab (fun _ _ => rfl)) (fun _ _ => rfl))) (zaad (zaaw (zaaq (zaqf hr.units) (zacb rfl zak2 (zaek (zaal zaat (qv av16 1 rfl) zaab (fun _ _ => rfl))) (fun _ _ _ _ _ => (zaa2 (i := 0) zak2.nd rfl (Or.inl (zak3.k 0 rfl)) (Or.inr (zak3.k 0 rfl)))) (fun _ _ _ _ _ => zab4) (fun _ _ _ _ _ => (zaar Dwide_of hr (zaos.g 0 rfl) pass0 (zaaa (qw zak4 1 rfl) (zaaa (qw zak4 0 rfl) zaac zaag) zaag) zaca))) (zacb rfl zaii (zact (zaa9 (qv av16 2 rfl) rfl)) (fun _ _ _ _ _ => (zady K 2 rfl rfl (zabb (zaa2 (i := 0) zaii.nd rfl (Or.inl (zagx.k 0 rfl)) (Or.inr (zagx.k 0 rfl))) (zabb (zaa2 (i := 1) zaii.nd rfl (Or.inl (zagx.k 1 rfl)) (Or.inr (zagx.k 1 rfl))) zacl)))) (fun _ _ _ _ _ => zab4) (fun _ _ _ _ _ => (qw zaot 1 rfl))) (nomark _)) (zaaf (zaaj zabm)) zaak) (zaad (zacm hu (zaa9 (qv av16 0 rfl) rfl) (zaal zaat (qv av16 1 rfl) zaab (fun _ _ => rfl)) (qv av16 2 rfl) rfl) (zaaf (zaaj zabm))))))), ?_⟩
 (try dsimp only [cxOf])
 cases r with
 | use n mo =>
  obtain ⟨pe, ra, rb⟩ := ra
  have sn0 := sn
  obtain ⟨dx, ab, il, wd, us, kp, nx, ot, ys, uk, ak, sf⟩ := sn.ex
  have so := sf.o
  have su := sf.u
  have fu := fS_u ab il wd us kp nx ot
  have fa := fS_a ab il wd us kp nx ot
  have sa := sf.c.get sf.a0 (by simp)
  have z := sf.z
  have zm := sf.zm
  have lu := Paired.length sf.ua
  have lk : uk.length < sizeLine := by rw [sizeLine_eq]; omega
  walk_at "rd"
  cases hf : free S n with
  | false =>
   have no : take hs S (.use n mo) = none := by
    simp only [take, hf]
    cases hs.lookup mo <;> rfl
   walk_at "rd"
   exact q false _ ⟨Tu.refl _, fun z => (by cases z), fun _ => ⟨no, sn0⟩⟩
  | true =>
   obtain ⟨f1, f2⟩ := zai9 hf
   have nu : valV uk (.inr n) = none := by
    rcases zaft sf.ua n with ⟨_, e⟩ | ⟨_, _, e, _⟩
    ·exact e
    ·rw [f2] at e; cases e
   rcases zaft sf.aa mo with ⟨e1, e2⟩ | ⟨wi, u, e1, e2, hl⟩
   ·have no : take hs S (.use n mo) = none := by simp [take, e1]
    walk_at "rd"
    exact q false _ ⟨Tu.refl _, fun z => (by cases z), fun _ => ⟨no, sn0⟩⟩
   ·have yes : take hs S (.use n mo) = some { S with us := S.us ++ [(n, wi)] } := by simp [take, e1, hf]
    obtain ⟨dx', ab', il', wd', us', kp', nx', ot', o1, o2, o3⟩ := (hl.ch sf.c).ex
    have fi := fS_i ab' il' wd' us' kp' nx' ot'
    walk_at "rd"
    refine zaea [] (fun i ys σ H' => H' = H ∧ ys = [] ∧ ∃ u, σ = [u, some (.ref x)]) (by rw [sizeLine_eq]; show 0 < 16777216; decide) ⟨rfl, rfl, _, rfl⟩ ?_ ?_ ?_
    ·rintro i ys σ H' hi ⟨rfl, rfl, _⟩
     exact ⟨by simp, SqT.of rb⟩
    ·rintro i ys σ H' z hz
     simp at hz
    rintro ys2 σ H' ⟨rfl, rfl, _⟩
    intro D1 hD1
    have o2' : upd H' D1 (.lst []) il' = some (.lst []) := zaa6 hD1 o2
    have sc : ScaL [] := ⟨by simp⟩
    have g1 : upd H' D1 (.lst []) D1 = some (.lst []) := zaah
    walk_at "rd"
    refine zad9 [] (fun i ys σ H2 => H2 = upd H' D1 (.lst []) ∧ ys = [] ∧ ∃ u v, σ = [u, v]) (by rw [sizeLine_eq]; show 0 < 16777216; decide) ⟨rfl, rfl, _, _, rfl⟩ ?_ ?_ ?_
    ·rintro i ys σ H2 hi ⟨rfl, rfl, _⟩
     exact ⟨by simp, SqL.of o2'⟩
    ·rintro i ys σ H2 z hz
     simp at hz
    rintro ys3 σ H2 ⟨rfl, rfl, _⟩
    intro D2 hD2
    have g2 : upd (upd H' D1 (.lst [])) D2 (.lst []) D2 = some (.lst []) := zaah
    have c2 : Ch [] H' (upd (upd H' D1 (.lst [])) D2 (.lst [])) := (Ch.new hD1 _).trans (Ch.new hD2 _)
    have g1 := zaa6 hD2 g1 (u := .lst [])
    have sf2 := sf.ch c2
    obtain ⟨H3, e3⟩ : ∃ H3, upd (upd H' D1 (.lst [])) D2 (.lst []) = H3 := ⟨_, rfl⟩
    rw [e3] at g2 c2 g1 sf2 ⊢
    clear e3 hD2 hD1 o2'
    walk_at "rd"
    rw [zae8 _ nu]
    exact q true _ ⟨(Tu.same c2).trans (zaig sf2.u), fun _ => ⟨_, yes, dx, ab, il, wd, us, kp, nx, ot, _, _, ak, (sf2.up (Nat.le_succ m) m1).setU n wi u hl (by omega)⟩, fun z => (by cases z)⟩
 | inn n w => cases ew
 | keep n w f => cases ew
 | lt n e => cases ew
 | nxt n e => cases ew
 | out n e => cases ew
theorem gl2m0 : AG (defScope (inClass (top 2) 0)) ["FloorError"] := ⟨by decide +kernel⟩
theorem av2m0 : AF (defScope (inClass (top 2) 0)) ["self", "line"] := ⟨by decide +kernel⟩
theorem scNo : FnScope ["self", "line"] ["self", "line"] (defScope (inClass (top 2) 0)) := ⟨rfl, rfl, rfl, by decide +kernel, rfl, by decide +kernel, by decide +kernel⟩
theorem zars {CT CF : Addr} {fi : Addr} (F : Fun K "__init__" "NoSense.__init__" (inClass (top 2) 0) f fd) (xi : XI K CT fi) (nL : NoAttr K CT "line") (m_FloorError : mg "FloorError" = some (.ref CF)) (ci_FloorError : ClsIni K CF) : FnOk P w K mg base CX0 (k + 1) f fd ["self", "line"] (spXI CT "line") := by
 have nd := scNo.nd
 refine F.ok scNo (fun vs H Q E h => by obtain ⟨ea, v, rfl, _⟩ := h; rfl) (fun cdv A outer s H vs Q E hr h => ?_)
 obtain ⟨ea, v, rfl, he, q⟩ := h
 refine ⟨_, (Pr.h (zaad (zada (zakw m_FloorError ci_FloorError (gl2m0.g 0 rfl) (zaaa (qv av2m0 0 rfl) (zaaa zaap zaac zaae) zaag))) (zaaf (zamg rfl (qv av2m0 0 rfl) (qv av2m0 1 rfl))))), ?_⟩
 (try dsimp only [cxOf])
 have xb := xi.xb
 walk_at "rd"
 rename_i d n1 n2
 exact q d n1 n2
theorem av5m0 : AF (defScope (inClass (top 5) 0)) ["self", "above"] := ⟨by decide +kernel⟩
theorem freeU {H : Hp} {x p : Addr} {o : HO} (h : upd H x o p = none) : p ≠ x ∧ H p = none := by
 have n : p ≠ x := fun z => by rw [z, zaah] at h; cases h
 exact ⟨n, by rw [zaav n] at h; exact h⟩
def S0 : S9 := ⟨[], [], [], [], [], 0⟩
def spSn (CS : Addr) : Sp := fun vs H Q _ => ∃ (x dx ab : Addr), vs = [.ref x, .ref ab] ∧ H x = some (.ins CS dx []) ∧ ∀ il wd us kp nx ot H', Ch [x] H H' → H' x = some (.ins CS dx (fldsS ab il wd us kp nx ot)) → (H il = none ∧ H wd = none ∧ H us = none ∧ H kp = none ∧ H nx = none ∧ H ot = none) →
 H' il = some (.lst []) → H' wd = some (.dK []) → H' us = some (.dK []) → H' kp = some (.dK []) → H' nx = some (.dK []) → H' ot = some (.dK []) → (wd ≠ us ∧ wd ≠ kp ∧ wd ≠ nx ∧ wd ≠ ot ∧ us ≠ kp ∧ us ≠ nx ∧ us ≠ ot ∧ kp ≠ nx ∧ kp ≠ ot ∧ nx ≠ ot) → Q .non H'
theorem scSn : FnScope ["self", "above"] ["self", "above"] (defScope (inClass (top 5) 0)) := ⟨rfl, rfl, rfl, by decide +kernel, rfl, by decide +kernel, by decide +kernel⟩
theorem zart {CS : Addr} (F : Fun K "__init__" "Sense.__init__" (inClass (top 5) 0) f fd) (cl : Cls K CS) (n1 : NoAttr K CS "above") (n2 : NoAttr K CS "ins") (n3 : NoAttr K CS "wides") (n4 : NoAttr K CS "uses") (n5 : NoAttr K CS "keepers") (n6 : NoAttr K CS "nexts") (n7 : NoAttr K CS "outs") : FnOk P w K mg base CX0 (k + 1) f fd ["self", "above"] (spSn CS) := by
 have nd := scSn.nd
 refine F.ok scSn (fun vs H Q E h => by obtain ⟨x, dx, ab, rfl, _⟩ := h; rfl) (fun cdv A outer s H vs Q E hr h => ?_)
 obtain ⟨x, dx, ab, rfl, hx, q⟩ := h
 refine ⟨_, (Pr.h (zaad (zadb (qv av5m0 0 rfl) (qv av5m0 1 rfl) rfl) (zaad (zadb (qv av5m0 0 rfl) (zaa5 zaac) rfl) (zaad (zadb (qv av5m0 0 rfl) zaco rfl) (zaad (zadb (qv av5m0 0 rfl) zaco rfl) (zaad (zadb (qv av5m0 0 rfl) zaco rfl) (zaad (zadb (qv av5m0 0 rfl) zaco rfl) (zaaf (zadb (qv av5m0 0 rfl) zaco rfl))))))))), ?_⟩
 (try dsimp only [cxOf])
 walk_at "rd"
 rename_i il hil wd hwd us hus kp hkp nx hnx ot hot
 obtain ⟨n0_il_x, hil_0⟩ := freeU hil
 have f_il : H il = none := hil_0
 obtain ⟨n0_wd_x, hwd_0⟩ := freeU hwd
 obtain ⟨n1_wd_il, hwd_1⟩ := freeU hwd_0
 obtain ⟨n2_wd_x, hwd_2⟩ := freeU hwd_1
 have f_wd : H wd = none := hwd_2
 obtain ⟨n0_us_x, hus_0⟩ := freeU hus
 obtain ⟨n1_us_wd, hus_1⟩ := freeU hus_0
 obtain ⟨n2_us_x, hus_2⟩ := freeU hus_1
 obtain ⟨n3_us_il, hus_3⟩ := freeU hus_2
 obtain ⟨n4_us_x, hus_4⟩ := freeU hus_3
 have f_us : H us = none := hus_4
 obtain ⟨n0_kp_x, hkp_0⟩ := freeU hkp
 obtain ⟨n1_kp_us, hkp_1⟩ := freeU hkp_0
 obtain ⟨n2_kp_x, hkp_2⟩ := freeU hkp_1
 obtain ⟨n3_kp_wd, hkp_3⟩ := freeU hkp_2
 obtain ⟨n4_kp_x, hkp_4⟩ := freeU hkp_3
 obtain ⟨n5_kp_il, hkp_5⟩ := freeU hkp_4
 obtain ⟨n6_kp_x, hkp_6⟩ := freeU hkp_5
 have f_kp : H kp = none := hkp_6
 obtain ⟨n0_nx_x, hnx_0⟩ := freeU hnx
 obtain ⟨n1_nx_kp, hnx_1⟩ := freeU hnx_0
 obtain ⟨n2_nx_x, hnx_2⟩ := freeU hnx_1
 obtain ⟨n3_nx_us, hnx_3⟩ := freeU hnx_2
 obtain ⟨n4_nx_x, hnx_4⟩ := freeU hnx_3
 obtain ⟨n5_nx_wd, hnx_5⟩ := freeU hnx_4
 obtain ⟨n6_nx_x, hnx_6⟩ := freeU hnx_5
 obtain ⟨n7_nx_il, hnx_7⟩ := freeU hnx_6
 obtain ⟨n8_nx_x, hnx_8⟩ := freeU hnx_7
 have f_nx : H nx = none := hnx_8
 obtain ⟨n0_ot_x, hot_0⟩ := freeU hot
 obtain ⟨n1_ot_nx, hot_1⟩ := freeU hot_0
 obtain ⟨n2_ot_x, hot_2⟩ := freeU hot_1
 obtain ⟨n3_ot_kp, hot_3⟩ := freeU hot_2
 obtain ⟨n4_ot_x, hot_4⟩ := freeU hot_3
 obtain ⟨n5_ot_us, hot_5⟩ := freeU hot_4
 obtain ⟨n6_ot_x, hot_6⟩ := freeU hot_5
 obtain ⟨n7_ot_wd, hot_7⟩ := freeU hot_6
 obtain ⟨n8_ot_x, hot_8⟩ := freeU hot_7
 obtain ⟨n9_ot_il, hot_9⟩ := freeU hot_8
 obtain ⟨n10_ot_x, hot_10⟩ := freeU hot_9
 have f_ot : H ot = none := hot_10
 have nds : wd ≠ us ∧ wd ≠ kp ∧ wd ≠ nx ∧ wd ≠ ot ∧ us ≠ kp ∧ us ≠ nx ∧ us ≠ ot ∧ kp ≠ nx ∧ kp ≠ ot ∧ nx ≠ ot := ⟨n1_us_wd.symm, n3_kp_wd.symm, n5_nx_wd.symm, n7_ot_wd.symm, n1_kp_us.symm, n3_nx_us.symm, n5_ot_us.symm, n1_nx_kp.symm, n3_ot_kp.symm, n1_ot_nx.symm⟩
 clear hil hwd hus hkp hnx hot
 refine q il wd us kp nx ot _ ?_ ?_ ⟨f_il, f_wd, f_us, f_kp, f_nx, f_ot⟩ ?_ ?_ ?_ ?_ ?_ ?_ nds
 ·intro b o hb hn
  have hbx : b ≠ x := fun z => hn (by simp [z])
  have e_il : b ≠ il := fun z => by rw [z, f_il] at hb; cases hb
  have e_wd : b ≠ wd := fun z => by rw [z, f_wd] at hb; cases hb
  have e_us : b ≠ us := fun z => by rw [z, f_us] at hb; cases hb
  have e_kp : b ≠ kp := fun z => by rw [z, f_kp] at hb; cases hb
  have e_nx : b ≠ nx := fun z => by rw [z, f_nx] at hb; cases hb
  have e_ot : b ≠ ot := fun z => by rw [z, f_ot] at hb; cases hb
  simp only [zaav hbx, zaav e_il, zaav e_wd, zaav e_us, zaav e_kp, zaav e_nx, zaav e_ot]
  exact hb
 ·rw [zaah]; rfl
 ·simp only [zaav n0_il_x, zaav (Ne.symm n1_wd_il), zaav (Ne.symm n3_us_il), zaav (Ne.symm n5_kp_il), zaav (Ne.symm n7_nx_il), zaav (Ne.symm n9_ot_il), zaah]
 ·simp only [zaav n0_wd_x, zaav (Ne.symm n1_us_wd), zaav (Ne.symm n3_kp_wd), zaav (Ne.symm n5_nx_wd), zaav (Ne.symm n7_ot_wd), zaah]
 ·simp only [zaav n0_us_x, zaav (Ne.symm n1_kp_us), zaav (Ne.symm n3_nx_us), zaav (Ne.symm n5_ot_us), zaah]
 ·simp only [zaav n0_kp_x, zaav (Ne.symm n1_nx_kp), zaav (Ne.symm n3_ot_kp), zaah]
 ·simp only [zaav n0_nx_x, zaav (Ne.symm n1_ot_nx), zaah]
 ·simp only [zaav n0_ot_x, zaah]
end
end

section
def SqX (k : SK) (H : Hp) (a : Addr) (xs : List V) : Prop := match k with
 | .list => H a = some (.lst xs)
 | .tuple => H a = some (.tup xs)
theorem SqX.ch {kd : SK} {H H' : Hp} {a : Addr} {xs : List V} (h : SqX kd H a xs) (c : Ch [] H H') : SqX kd H' a xs := by
 cases kd with
 | list => exact c.get h (by simp)
 | tuple => exact c.get h (by simp)
theorem SqX.or {kd : SK} {K : PySem.W.Frag} {H : Hp} {a : Addr} {xs : List V} (h : SqX kd H a xs) : SqL K H a xs ∨ SqT K H a xs := by
 cases kd with
 | list => exact .inl (SqL.of h)
 | tuple => exact .inr (SqT.of h)
def Eqv : Nat → Hp → V → V → Prop
 | 0, _, _, _ => False
 | n + 1, H, x, y => (∃ k : Key, x = kV k ∧ y = kV k) ∨ ∃ (p r : Addr) (xs ys : List V) (kd : SK), x = .ref p ∧ y = .ref r ∧ SqX kd H p xs ∧ SqX kd H r ys ∧ Paired (Eqv n H) xs ys ∧ xs.length ≤ 300
theorem Eqv.ch {H H' : Hp} (c : Ch [] H H') : ∀ {n : Nat} {x y : V}, Eqv n H x y → Eqv n H' x y
 | 0, _, _, h => h
 | n + 1, x, y, h => by
  rcases h with h | ⟨p, r, xs, ys, kd, e1, e2, g1, g2, pr, l⟩
  ·exact .inl h
  ·exact .inr ⟨p, r, xs, ys, kd, e1, e2, g1.ch c, g2.ch c, zaax (fun _ _ => Eqv.ch c) pr, l⟩
inductive Dt
 | sc (k : Key)
 | seq (l : List Dt)
def DAt (tp : Bool) : Nat → Hp → Dt → V → Prop
 | 0, _, _, _ => False
 | n + 1, H, d, v => (∃ k : Key, d = .sc k ∧ v = kV k) ∨ ∃ (ds : List Dt) (p : Addr) (xs : List V) (kd : SK), d = .seq ds ∧ v = .ref p ∧ (tp = true → kd = .tuple) ∧ SqX kd H p xs ∧ Paired (DAt tp n H) ds xs ∧ xs.length ≤ 300
theorem DAt.ch {tp : Bool} {H H' : Hp} (c : Ch [] H H') : ∀ {n : Nat} {d : Dt} {v : V}, DAt tp n H d v → DAt tp n H' d v
 | 0, _, _, h => h
 | n + 1, d, v, h => by
  rcases h with h | ⟨ds, p, xs, kd, e1, e2, t, s, pr, l⟩
  ·exact .inl h
  ·exact .inr ⟨ds, p, xs, kd, e1, e2, t, s.ch c, zaax (fun _ _ => DAt.ch c) pr, l⟩
section
variable {P : Program} {w : World} {K : PySem.W.Frag} {mg : Str → Option Value} {base : Heap} {f : Addr} {fd : FuncData} {k : Nat}
theorem zabs : bootBuiltins "tuple" = some (.type "tuple") := by decide +kernel
theorem zabt : ("tuple" : Str) ≠ "__name__" := by decide +kernel
theorem zabu : Nd "tuple" := by decide +kernel
theorem zacg : bootBuiltins "list" = some (.type "list") := by decide +kernel
theorem zach : ("list" : Str) ≠ "__name__" := by decide +kernel
theorem zaci : Nd "list" := by decide +kernel
theorem zaam : bootBuiltins "isinstance" = some (.builtin "isinstance") := by decide +kernel
theorem zaan : ("isinstance" : Str) ≠ "__name__" := by decide +kernel
theorem zaao : Nd "isinstance" := by decide +kernel
theorem zafx : Nd "frozen" := by decide +kernel
theorem gl25 : AG (defScope (top 25)) ["tuple", "list", "isinstance"] := ⟨by decide +kernel⟩
theorem av25 : AF (defScope (top 25)) ["thing"] := ⟨by decide +kernel⟩
def zagy : Scope := { kind := PySem.ScopeKind.function, names := [ (PySem.Str.ofString ".0", PySem.NameKind.local), (PySem.Str.ofString "inner", PySem.NameKind.local), (PySem.Str.ofString "frozen", PySem.NameKind.globalImplicit)], isGenerator := false, isCoroutine := false, more := [] : PySem.Scope }
theorem zagz : CompOk zagy (defScope (top 25)) (["inner"] : List Str) (["thing"] : List Str) [] (["inner"] : List Str) := compOk rfl (by decide +kernel) (by decide +kernel) (by decide +kernel) (by decide +kernel) rfl (by decide +kernel)
theorem zag0 : AK (relab zagy (defScope (top 25))) ["inner"] := ⟨by decide +kernel⟩
theorem zak5 : AG (relab zagy (defScope (top 25))) ["frozen"] := ⟨by decide +kernel⟩
theorem zak6 : AV (relab zagy (defScope (top 25))) ["inner"] := ⟨by decide +kernel⟩
theorem zade {α β : Type} {R : α → β → Prop} : ∀ {xs : List α} {ys : List β}, Paired R xs ys → ∀ {i : Nat} {y : β}, ys[i]? = some y → ∃ x, xs[i]? = some x ∧ R x y
 | _, _, .nil, i, y, h => by simp at h
 | a :: xs, b :: ys, .cons e r, 0, y, h => by simp at h; subst h; exact ⟨a, rfl, e⟩
 | a :: xs, b :: ys, .cons e r, i + 1, y, h => by
  obtain ⟨x, e1, e2⟩ := zade r (i := i) (by simpa using h)
  exact ⟨x, by simpa using e1, e2⟩
theorem DAt.kp {tp : Bool} {H H' : Hp} (h : ∀ p xs kd, SqX kd H p xs → SqX kd H' p xs) : ∀ {n : Nat} {d : Dt} {v : V}, DAt tp n H d v → DAt tp n H' d v
 | 0, _, _, z => z
 | n + 1, d, v, z => by
  rcases z with z | ⟨ds, p, xs, kd, e1, e2, t, s, pr, l⟩
  ·exact .inl z
  ·exact .inr ⟨ds, p, xs, kd, e1, e2, t, h _ _ _ s, zaax (fun _ _ => DAt.kp h) pr, l⟩
theorem SqX.ins {H H' : Hp} {x C dx : Addr} {fs : List (Str × V)} (c : Ch [x] H H') (hx : H x = some (.ins C dx fs)) : ∀ p xs kd, SqX kd H p xs → SqX kd H' p xs := fun p xs kd h => by
 cases kd with
 | list =>
  have h : H p = some (.lst xs) := h
  exact c.get h (by have := zacc h hx (by intro z; cases z); simpa using this)
 | tuple =>
  have h : H p = some (.tup xs) := h
  exact c.get h (by have := zacc h hx (by intro z; cases z); simpa using this)
structure FD (n : Nat) (H : Hp) (d : Dt) (v : V) : Prop where
 h : DAt false n H d v
def spFz (n : Nat) : Sp := fun vs H Q _ => ∃ (v : V) (d : Dt), vs = [v] ∧ FD n H d v ∧ ∀ v' H', Ch [] H H' → DAt true n H' d v' → Q v' H'
theorem scFz : FnScope ["thing"] ["thing"] (defScope (top 25)) := ⟨rfl, rfl, rfl, by decide +kernel, rfl, by decide +kernel, by decide +kernel⟩
theorem zaqt (F : Fun K "frozen" "frozen" (top 25) f fd) : FnOk P w K mg base CX0 (k + 1) f fd ["thing"] (spFz 0) :=
 F.ok scFz (fun vs H Q E h => by obtain ⟨x, y, rfl, _⟩ := h; rfl) (fun cdv A outer s H vs Q E hr h => by obtain ⟨_, _, _, e, _⟩ := h; exact e.h.elim)
theorem zaru (n : Nat) (F : Fun K "frozen" "frozen" (top 25) f fd) (Dfrozen : DefOk P w K mg base CX0 k "frozen" ["thing"] (spFz n)) (z_isinstance : mg "isinstance" = none) (z_list : mg "list" = none) (z_tuple : mg "tuple" = none) : FnOk P w K mg base CX0 (k + 1) f fd ["thing"] (spFz (n + 1)) := by
 have nd := scFz.nd
 refine F.ok scFz (fun vs H Q E h => by obtain ⟨x, y, rfl, _⟩ := h; rfl) (fun cdv A outer s H vs Q E hr h => ?_)
 obtain ⟨v, d, rfl, ⟨e⟩, q⟩ := h
 rcases e with ⟨kk, rfl, rfl⟩ | ⟨ds, p, xs, kd, rfl, rfl, _, sx, pr, l⟩
 ·refine ⟨_, (Pr.h (zaad (zaaw (zaba (zaai zahw (gl25.g 2 rfl) z_isinstance zaam (zaaa (qv av25 0 rfl) (zaaa (zaa4 (zaaa (zaa0 (v := .ty "list") (gl25.g 1 rfl) z_list zacg rfl zach zaci) (zaaa (zaa0 (v := .ty "tuple") (gl25.g 0 rfl) z_tuple zabs rfl zabt zabu) zaac zaag) zaag)) zaac)) zaan zaao)) (zaaf (zaaj (zabj zac7 (gl25.g 0 rfl) z_tuple zabs (zaaa (zacb rfl zagz (zact (qv av25 0 rfl)) (fun _ _ _ _ _ => (zaa2 (i := 0) zagz.nd rfl (Or.inl (zag0.k 0 rfl)) (Or.inr (zag0.k 0 rfl)))) (fun _ _ _ _ _ => zab4) (fun _ _ _ _ _ => (zaar Dfrozen hr (zak5.g 0 rfl) pass0 (zaaa (qw zak6 0 rfl) zaac zaag) zafx))) zaac zaby) zabt zabu))) zaak) (zaaf (zaaj (qv av25 0 rfl))))), ?_⟩
  (try dsimp only [cxOf])
  cases kk with
  | inl b =>
   dsimp only [kV]
   walk_at "rd"
   exact q _ _ (Ch.new (by assumption) _) (.inl ⟨.inl b, rfl, rfl⟩)
  | inr b =>
   dsimp only [kV]
   walk_at "rd"
   exact q _ _ (Ch.new (by assumption) _) (.inl ⟨.inr b, rfl, rfl⟩)
 ·have el := Paired.length pr
  refine ⟨_, (Pr.h (zaad (zaaw (zaba (zaai zahw (gl25.g 2 rfl) z_isinstance zaam (zaaa (qv av25 0 rfl) (zaaa (zaa4 (zaaa (zaa0 (v := .ty "list") (gl25.g 1 rfl) z_list zacg rfl zach zaci) (zaaa (zaa0 (v := .ty "tuple") (gl25.g 0 rfl) z_tuple zabs rfl zabt zabu) zaac zaag) zaag)) zaac)) zaan zaao)) (zaaf (zaaj (zabj zac7 (gl25.g 0 rfl) z_tuple zabs (zaaa (zacb rfl zagz (zaoh K rfl kd (qv av25 0 rfl)) (fun _ _ _ _ _ => (zaa2 (i := 0) zagz.nd rfl (Or.inl (zag0.k 0 rfl)) (Or.inr (zag0.k 0 rfl)))) (fun _ _ _ _ _ => zab4) (fun _ _ _ _ _ => (zaar Dfrozen hr (zak5.g 0 rfl) pass0 (zaaa (qw zak6 0 rfl) zaac zaag) zafx))) zaac zaby) zabt zabu))) zaak) (zaaf (zaaj (qv av25 0 rfl))))), ?_⟩
  (try dsimp only [cxOf])
  have sxo := sx.or (K := K)
  cases kd with
  | list =>
   have sx : H p = some (.lst xs) := sx
   walk_at "rd"
   rename_i T hT
   have c0 : Ch [] H (upd H T (.tup [.ty "list", .ty "tuple"])) := Ch.new hT _
   generalize upd H T (.tup [.ty "list", .ty "tuple"]) = H1 at c0 ⊢
   refine zad9 xs (fun i ys σ H' => Ch [] H1 H' ∧ Paired (DAt true n H') (ds.take i) ys ∧ ∃ u, σ = [u]) (by rw [sizeLine_eq]; omega) ⟨Ch.refl _ _, .nil, _, rfl⟩ ?_ ?_ ?_
   ·rintro i ys σ H' hi ⟨c, w, _⟩
    refine ⟨?_, SqL.of ((c0.trans c).get sx (by simp))⟩
    have := Paired.length w
    rw [List.length_take] at this
    omega
   ·rintro i ys σ H' x hx ⟨c, w, u, rfl⟩
    obtain ⟨d, ed, dx⟩ := zade pr hx
    have fd : FD n H' d x := ⟨DAt.ch (c0.trans c) dx⟩
    walk_at "rd"
    rename_i v' H2 c2 dv
    refine ⟨?_, _, rfl⟩
    rw [List.take_add_one, ed]
    exact zacf (R := DAt true n H2) dv (zaax (fun _ _ => DAt.ch c2) w)
   ·rintro ys σ H2 ⟨c, w, _⟩
    rw [← el, List.take_length] at w
    have lw := Paired.length w
    intro D hD
    walk_at "rd"
    rename_i T2 hT2
    have cT : Ch [] H2 (upd (upd H2 D (.lst ys)) T2 (.tup ys)) := (Ch.new hD _).trans (Ch.new hT2 _)
    exact q _ _ ((c0.trans c).trans cT) (.inr ⟨ds, T2, ys, .tuple, rfl, rfl, fun _ => rfl, zaah, zaax (fun _ _ => DAt.ch cT) w, by omega⟩)
  | tuple =>
   have sx : H p = some (.tup xs) := sx
   walk_at "rd"
   rename_i T hT
   have c0 : Ch [] H (upd H T (.tup [.ty "list", .ty "tuple"])) := Ch.new hT _
   generalize upd H T (.tup [.ty "list", .ty "tuple"]) = H1 at c0 ⊢
   refine zaea xs (fun i ys σ H' => Ch [] H1 H' ∧ Paired (DAt true n H') (ds.take i) ys ∧ ∃ u, σ = [u]) (by rw [sizeLine_eq]; omega) ⟨Ch.refl _ _, .nil, _, rfl⟩ ?_ ?_ ?_
   ·rintro i ys σ H' hi ⟨c, w, _⟩
    refine ⟨?_, SqT.of ((c0.trans c).get sx (by simp))⟩
    have := Paired.length w
    rw [List.length_take] at this
    omega
   ·rintro i ys σ H' x hx ⟨c, w, u, rfl⟩
    obtain ⟨d, ed, dx⟩ := zade pr hx
    have fd : FD n H' d x := ⟨DAt.ch (c0.trans c) dx⟩
    walk_at "rd"
    rename_i v' H2 c2 dv
    refine ⟨?_, _, rfl⟩
    rw [List.take_add_one, ed]
    exact zacf (R := DAt true n H2) dv (zaax (fun _ _ => DAt.ch c2) w)
   ·rintro ys σ H2 ⟨c, w, _⟩
    rw [← el, List.take_length] at w
    have lw := Paired.length w
    intro D hD
    walk_at "rd"
    rename_i T2 hT2
    have cT : Ch [] H2 (upd (upd H2 D (.lst ys)) T2 (.tup ys)) := (Ch.new hD _).trans (Ch.new hT2 _)
    exact q _ _ ((c0.trans c).trans cT) (.inr ⟨ds, T2, ys, .tuple, rfl, rfl, fun _ => rfl, zaah, zaax (fun _ _ => DAt.ch cT) w, by omega⟩)
theorem av26m0 : AF (defScope (inClass (top 26) 0)) ["self", "name", "rows"] := ⟨by decide +kernel⟩
theorem gl26m0 : AG (defScope (inClass (top 26) 0)) ["frozen"] := ⟨by decide +kernel⟩
def fldsM (nm : Str) (rp : V) : List (Str × V) := [("name", .str nm), ("rows", rp)]
def spMo (C : Addr) (n : Nat) : Sp := fun vs H Q _ => ∃ (x dx : Addr) (nm : Str) (v : V) (d : Dt), vs = [.ref x, .str nm, v] ∧ H x = some (.ins C dx []) ∧ FD n H d v ∧ ∀ rp H', Ch [x] H H' → H' x = some (.ins C dx (fldsM nm rp)) → DAt true n H' d rp → Q .non H'
theorem scMo : FnScope ["self", "name", "rows"] ["self", "name", "rows"] (defScope (inClass (top 26) 0)) := ⟨rfl, rfl, rfl, by decide +kernel, rfl, by decide +kernel, by decide +kernel⟩
theorem zarv {C : Addr} {n : Nat} (F : Fun K "__init__" "Module.__init__" (inClass (top 26) 0) f fd) (cl : Cls K C) (nN : NoAttr K C "name") (nR : NoAttr K C "rows") (Dfrozen : DefOk P w K mg base CX0 k "frozen" ["thing"] (spFz n)) : FnOk P w K mg base CX0 (k + 1) f fd ["self", "name", "rows"] (spMo C n) := by
 have nd := scMo.nd
 refine F.ok scMo (fun vs H Q E h => by obtain ⟨x, dx, nm, v, d, rfl, _⟩ := h; rfl) (fun cdv A outer s H vs Q E hr h => ?_)
 obtain ⟨x, dx, nm, v, d, rfl, hx, fd, q⟩ := h
 refine ⟨_, (Pr.h (zaad (zadb (qv av26m0 0 rfl) (qv av26m0 1 rfl) rfl) (zaaf (zadb (qv av26m0 0 rfl) (zaar Dfrozen hr (gl26m0.g 0 rfl) pass0 (zaaa (qv av26m0 2 rfl) zaac zaag) zafx) rfl)))), ?_⟩
 (try dsimp only [cxOf])
 obtain ⟨H1, e1⟩ : ∃ H1, upd H x (.ins C dx (putF "name" (.str nm) [])) = H1 := ⟨_, rfl⟩
 have c1 : Ch [x] H H1 := by rw [← e1]; exact Ch.put
 have x1 : H1 x = some (.ins C dx (putF "name" (.str nm) [])) := by rw [← e1]; exact zaah
 have fd1 : FD n H1 d v := ⟨DAt.kp (SqX.ins c1 hx) fd.h⟩
 walk_at "rd"
 rw [e1]
 refine ⟨fd1, fun v' H2 c2 dv => ?_⟩
 have x2 := c2.get x1 (by simp)
 walk_at "rd"
 exact q v' _ ((c1.trans c2.wk).trans Ch.put) zaah (DAt.kp (SqX.ins Ch.put x2) dv)
end
end

section
local macro_rules | `(tactic| walk_at "user") => `(tactic| first
 | (apply zafr; walk_at "get")
 | (apply zab9; (focus walk_at "get"); (focus with_reducible assumption))
 | (apply zace; (focus walk_at "get"); (focus with_reducible assumption))
 | (apply dputS; (focus walk_at "get"); (focus with_reducible assumption)))
def run (hs : List (Str × Int)) : List Rw9 → S9 → Nat → Nat ⊕ S9
 | [], S, _ => .inr S
 | r :: rs, S, i => match take hs S r with
  | none => .inl i
  | some S' => run hs rs S' (i + 1)
def fine (S : S9) : Prop := S.nx.length = S.kp.length ∧ S.ot ≠ []
structure MoAt (CM : Addr) (H : Hp) (mp : Addr) (nm : Str) (rows : List Rw9) : Prop where
 ex : ∃ (dm rp : Addr) (ps : List Addr), H mp = some (.ins CM dm (fldsM nm (.ref rp))) ∧ H rp = some (.tup (ps.map V.ref)) ∧ Paired (fun r p => RwAt H p r) rows ps ∧ rows.length ≤ 60
theorem MoAt.ch {CM : Addr} {H H' : Hp} {mp : Addr} {nm : Str} {rows : List Rw9} (h : MoAt CM H mp nm rows) (c : Ch [] H H') : MoAt CM H' mp nm rows := by
 obtain ⟨dm, rp, ps, a, b, d, e⟩ := h.ex
 exact ⟨dm, rp, ps, c.get a (by simp), c.get b (by simp), zaax (fun _ _ => RwAt.tu (Tu.same c)) d, e⟩
structure Box (Pd : Prop) : Prop where
 h : Pd
theorem Ch.forget {W : List Addr} {H H' : Hp} (c : Ch W H H') (h : ∀ w ∈ W, H w = none) : Ch [] H H' := fun a o e _ => c a o e fun z => by rw [h a z] at e; cases e
theorem Ch.made {H H' : Hp} {x dx C : Addr} (hx : H x = none) (hd : H dx = none) (n : dx ≠ x) (c : Ch [x] (upd (upd H dx (.own x)) x (.ins C dx [])) H') : Ch [] H H' :=
 Ch.forget ((((Ch.new hd _).trans (Ch.new (by rw [zaav n.symm]; exact hx) _)).wk).trans c) (fun w hw => by rw [List.mem_singleton.mp hw]; exact hx)
structure AbAt (CS : Addr) (H : Hp) (ab : Addr) (hs : List (Str × Int)) : Prop where
 ex : ∃ ak, H ab = some (.dK ak) ∧ UsAt CS H hs ak
theorem fM_n (nm : Str) (v : V) : List.lookup (Str.ofString "name") (fldsM nm v) = some (.str nm) := rfl
theorem fM_r (nm : Str) (v : V) : List.lookup (Str.ofString "rows") (fldsM nm v) = some v := rfl
section
variable {P : Program} {w : World} {K : PySem.W.Frag} {mg : Str → Option Value} {base : Heap} {f : Addr} {fd : FuncData} {k : Nat}
theorem zamj : Nd "Sense" := by decide +kernel
theorem zak7 : Nd "TAKERS" := by decide +kernel
theorem zabp : ("len" : Str) ≠ "__name__" := by decide +kernel
theorem zabq : Nd "len" := by decide +kernel
theorem av20 : AF (defScope (top 20)) ["module", "above", "line", "sense", "count", "row"] := ⟨by decide +kernel⟩
theorem glx20 : AG (defScope (top 20)) ["NoSense", "Sense", "enumerate", "TAKERS", "len"] := ⟨by decide +kernel⟩
structure RunS (hs : List (Str × Int)) (rows : List Rw9) : Prop where
 ok : ∀ S, run hs rows S0 0 = .inr S → fine S
def spSM (CS CM CT : Addr) : Sp := fun vs H Q E => ∃ (mp ab : Addr) (line : Int) (nm : Str) (rows : List Rw9) (hs : List (Str × Int)), vs = [.ref mp, .ref ab, .int line] ∧ MoAt CM H mp nm rows ∧ AbAt CS H ab hs ∧ hs.lookup nm = none ∧ RunS hs rows ∧
 (∀ S, run hs rows S0 0 = .inr S → ∀ x H', Ch [] H H' → SnAt rows.length CS H H' x hs S → Q (.ref x) H') ∧ (∀ i : Nat, run hs rows S0 0 = .inl i → ∀ d H', Ch [] H H' → H' d = some (.xd [("line", .int (line + 1 + (i : Int)))]) → E (.ref CT) (some d) H')
theorem scSM : FnScope ["module", "above", "line", "sense", "count", "row"] ["module", "above", "line"] (defScope (top 20)) := ⟨rfl, rfl, rfl, by decide +kernel, rfl, by decide +kernel, by decide +kernel⟩
theorem zarw {CS CM CT tk : Addr} {tkv : List (Key × V)} {spt : Addr → Sp} {At : Addr → Prop} (F : Fun K "sense_of_module" "sense_of_module" (top 20) f fd) (cl : Cls K CM) (nN : NoAttr K CM "name") (nR : NoAttr K CM "rows") (cs : Cls K CS) (nO : NoAttr K CS "outs") (nX : NoAttr K CS "nexts") (nK : NoAttr K CS "keepers")
  (MkSense : MakeOk P w K mg base CX0 k CS "Sense" ["self", "above"] (spSn CS)) (R_NoSense : RaiseOk P w K mg base k "NoSense" CT "line") (T_TAKERS : TabOk P w K mg base CX0 (k + 1) ["sense", "row"] spt At) (m_TAKERS : mg "TAKERS" = some (.ref tk)) (hKD : KD P w K tk tkv) (hT : ∀ r : Rw9, ∃ f, valV tkv (.inr (rwW r)) = some (.ref f) ∧ At f ∧ spt f = spT (rwW r) CS)
  (z_enumerate : mg "enumerate" = none) (z_len : mg "len" = none) : FnOk P w K mg base (CXE P w) (k + 2) f fd ["module", "above", "line"] (spSM CS CM CT) := by
 have nd := scSM.nd
 refine F.okE scSM (fun vs H Q E h => by obtain ⟨mp, ab, line, nm, rows, hs, rfl, _⟩ := h; rfl) (fun cdv A outer s H vs Q E hr h => ?_)
 obtain ⟨mp, ab, line, nm, rows, hs, rfl, mo, ⟨ak, ha, aa⟩, hn, ⟨fin⟩, q1, q2⟩ := h
 have hrm := hr
 have hu := zac8 hr
 refine ⟨_, (Pr.h (zaad (zaaw (zaif hu (zaa9 (qv av20 0 rfl) rfl) (qv av20 1 rfl)) (zaaf (zadz R_NoSense hrm (glx20.g 0 rfl) (zaaa (qv av20 2 rfl) zaac zaag))) zaak) (zabf (zaa1 (i := 3) nd rfl (av20.l 3 rfl) (zadj MkSense hrm (glx20.g 1 rfl) pass0 (zaaa (qv av20 1 rfl) zaac zaag) zamj)) (zaad (zacu powE rfl (zai0 .tuple (glx20.g 2 rfl) z_enumerate (zaaa (zaa9 (qv av20 0 rfl) rfl) zaac zabx)) (zagq rfl (zabb (zaa2 (i := 4) nd rfl (av20.l 4 rfl)) (zabb (zaa2 (i := 5) nd rfl (av20.l 5 rfl)) zacl))) (zaaf (zaaw (zacd (zaba (zaks T_TAKERS hr pass0 (zan6 (zaix (v := .ref _) (glx20.g 3 rfl) m_TAKERS rfl zak7) (zaal zaat (qv av20 5 rfl) zaab (fun _ _ => rfl)) (fun _ _ => rfl)) (zaaa (qv av20 3 rfl) (zaaa (qv av20 5 rfl) zaac zaag) zaag)))) (zaaf (zadz R_NoSense hrm (glx20.g 0 rfl) (zaaa (zaau zabo (zaau zabo (qv av20 2 rfl) zaab) (qv av20 4 rfl)) zaac zaa7))) zaak))) (zaad (zaaw (zab5 (zab8 (zaaq zadh (zaai zafj (glx20.g 4 rfl) z_len PySem.boot_len (zaaa (zaa9 (qv av20 3 rfl) rfl) zaac zabx) zabp zabq) (zaai zafj (glx20.g 4 rfl) z_len PySem.boot_len (zaaa (zaa9 (qv av20 3 rfl) rfl) zaac zabx) zabp zabq) (nomark _)) (zabz (zaaq zabg (zaai zafj (glx20.g 4 rfl) z_len PySem.boot_len (zaaa (zaa9 (qv av20 3 rfl) rfl) zaac zabx) zabp zabq) zaab (nomark _))))) (zaaf (zadz R_NoSense hrm (glx20.g 0 rfl) (zaaa (zaau zabo (zaau zabo (qv av20 2 rfl) zaab) (zaai zaay (glx20.g 4 rfl) z_len PySem.boot_len (zaaa (zaa9 (qv av20 0 rfl) rfl) zaac zabx) zabp zabq)) zaac zaa7))) zaak) (zaaf (zaaj (qv av20 3 rfl)))))))), ?_⟩
 (try dsimp only [cxOf])
 obtain ⟨dm, rp, ps, hm, hp, pr, rl⟩ := mo.ex
 have fn := fM_n nm (.ref rp)
 have fr := fM_r nm (.ref rp)
 have pl := Paired.length pr
 have en : valV ak (.inr nm) = none := by
  rcases zaft aa nm with ⟨_, e⟩ | ⟨_, _, e, _⟩
  ·exact e
  ·rw [hn] at e; cases e
 walk_at "rd"
 refine zab7 (fun σ H' => Box (∃ x, σ = [some (.ref mp), some (.ref ab), some (.int line), some (.ref x), none, none] ∧ Ch [] H H' ∧ SnAt 0 CS H H' x hs S0)) ?_ ?_
 ·walk_at "rd"
  rename_i x dx hx hdx nx il wd us kp nxx ot H1 c1 g1 fr1 gi gw gu gk gn gt nds
  have cc := Ch.made hx hdx nx c1
  have fz : ∀ {a : Addr}, upd (upd H dx (.own x)) x (.ins CS dx []) a = none → H a = none := fun h => (freeU (freeU h).2).2
  exact ⟨x, rfl, cc, dx, ab, il, wd, us, kp, nxx, ot, [], [], ak, cc, g1, gi, gw, gu, gk, gn, gt, .nil, ha, aa, ⟨fz fr1.1, fz fr1.2.1, fz fr1.2.2.1, fz fr1.2.2.2.1, fz fr1.2.2.2.2.1, fz fr1.2.2.2.2.2⟩, nds, by simp [S0], by simp [S0], by decide, rfl⟩
 rintro σ H1 ⟨x, rfl, c1, sn0⟩
 have hm1 := c1.get hm (by simp)
 have hp1 := c1.get hp (by simp)
 walk_at "rd"
 refine zahv (xs := ps.map V.ref) (fun i σ H' => ∃ S u v, σ = [some (.ref mp), some (.ref ab), some (.int line), some (.ref x), u, v] ∧ Ch [] H H' ∧ SnAt i CS H H' x hs S ∧ run hs (rows.drop i) S i = run hs rows S0 0) ⟨S0, _, _, rfl, c1, sn0, rfl⟩ ?_ ?_ ?_
 ·rintro i σ H' hi ⟨S, u, v, rfl, c, _⟩
  exact SqT.of (c.get hp (by simp))
 ·rintro i z σ H2 T hz ⟨S, u, v, rfl, c2, sn, er⟩ hT2
  rw [List.getElem?_map] at hz
  obtain ⟨p, hq, rfl⟩ := Option.map_eq_some_iff.mp hz
  have hi : i < rows.length := by rw [pl]; exact (List.getElem?_eq_some_iff.mp hq).1
  have cT : Ch [] H2 (upd H2 T (.tup [.int (i : Int), .ref p])) := Ch.new hT2 _
  have c3 := c2.trans cT
  have sn3 := sn.ch cT
  have rs : RwS (upd H2 T (.tup [.int (i : Int), .ref p])) p rows[i] := ⟨by
   have := zacx pr i hi (by omega)
   rw [(List.getElem?_eq_some_iff.mp hq).2] at this
   exact RwAt.tu (Tu.same c3) this⟩
  have gp : ∃ xs, (upd H2 T (.tup [.int (i : Int), .ref p])) p = some (.tup (.str (rwW rows[i]) :: xs)) := by
   have := rs.h
   cases er2 : rows[i] <;> rw [er2] at this
   ·exact ⟨_, this⟩
   ·exact ⟨_, this.1⟩
   ·obtain ⟨_, a, _⟩ := this; exact ⟨_, a⟩
   ·obtain ⟨_, a, _⟩ := this; exact ⟨_, a⟩
   ·obtain ⟨_, a, _⟩ := this; exact ⟨_, a⟩
   ·obtain ⟨_, a, _⟩ := this; exact ⟨_, a⟩
  obtain ⟨xs, gp⟩ := gp
  obtain ⟨tf, ev, at_, esp⟩ := hT rows[i]
  rw [List.drop_eq_getElem_cons hi] at er
  generalize hH3 : upd H2 T (.tup [.int (i : Int), .ref p]) = H3 at c3 sn3 rs gp cT
  have gT : H3 T = some (.tup [.int (i : Int), .ref p]) := by rw [← hH3]; exact zaah
  clear hH3 hT2 cT
  walk_at "rd"
  refine ⟨.inr hKD, ev, ?_⟩
  walk_at "rd"
  rw [esp]
  have m1 : i < 1000 := by omega
  refine ⟨i, H, x, p, hs, S, rows[i], rfl, sn3, m1, rs, rfl, fun b H4 tr => ?_⟩
  cases b with
  | true =>
   obtain ⟨S', ey, sn4⟩ := tr.y rfl
   rw [run, ey] at er
   have c4 : Ch [] H H4 := by obtain ⟨_, _, _, _, _, _, _, _, _, _, _, sf⟩ := sn4.ex; exact sf.c
   walk_at "rd"
  | false =>
   obtain ⟨ey, sn4⟩ := tr.n rfl
   rw [run, ey] at er
   have c4 : Ch [] H H4 := by obtain ⟨_, _, _, _, _, _, _, _, _, _, _, sf⟩ := sn4.ex; exact sf.c
   have q2 := q2 i er.symm
   walk_at "rd"
   rename_i d hd
   exact q2 d _ (c4.trans (Ch.new hd _)) zaah
 ·rintro σ H2 ⟨S, u, v, rfl, c2, sn, er⟩
  rw [List.length_map, ← pl, List.drop_length] at er
  rw [List.length_map, ← pl] at sn
  have er : (.inr S : Nat ⊕ S9) = run hs rows S0 0 := er
  have q1 := q1 S er.symm
  obtain ⟨f1, f2⟩ := fin S er.symm
  have sn0 := sn
  obtain ⟨dx, ab', il, wd, us, kp, nx, ot, ys, uk, ak', sf⟩ := sn.ex
  have so := sf.o
  have sN := sf.n
  have sK := sf.k
  have sT := sf.t
  have f3 := fS_n ab' il wd us kp nx ot
  have f4 := fS_k ab' il wd us kp nx ot
  have f5 := fS_o ab' il wd us kp nx ot
  have eN : ((kB S.nx).length : Int) = ((kB S.kp).length : Int) := by simp [kB, f1]
  have eO : ¬ (V.int ((kI S.ot).length : Int) = V.int 0) := by
   intro z
   have : (kI S.ot).length = 0 := by simpa using z
   exact f2 (by simpa [kI] using this)
  walk_at "rd"
  rw [eN]
  refine ite2 (fun h => absurd h (by simp)) (fun _ => ?_)
  walk_at "rd"
  refine ite2 (fun h => absurd (of_decide_eq_true h) eO) (fun _ => ?_)
  walk_at "rd"
  exact q1 x _ c2 sn0
end
end

section
local macro_rules | `(tactic| walk_at "user") => `(tactic| first
 | (apply zafr; walk_at "get")
 | (apply zab9; (focus walk_at "get"); (focus with_reducible assumption))
 | (apply zace; (focus walk_at "get"); (focus with_reducible assumption))
 | (apply dputS; (focus walk_at "get"); (focus with_reducible assumption)))
def HN : List Str := ["widea", "wideb", "widec", "wided", "widee", "widef", "wideg", "wideh", "widei", "widej", "widek", "widel", "widem", "widen", "wideo", "widep"]
def hname (i : Nat) : Str := HN.getD i "top"
def hsK (n : Nat) : List (Str × Int) := (List.range n).map fun i => (hname i, (i : Int) + 1)
def hrow (i : Nat) : List Rw9 := [.out "big" (.lf (.val 0 ((i : Int) + 1)))]
def mrows (rows : List Rw9) (i : Nat) : List Rw9 := if i < 16 then hrow i else rows
theorem zamk (n : Nat) : hsK (n + 1) = hsK n ++ [(hname n, (n : Int) + 1)] := by simp [hsK, List.range_succ]
theorem zaou {n : Nat} (h : n ≤ 16) : (hsK n).lookup (hname n) = none := by
 have : n = 0 ∨ n = 1 ∨ n = 2 ∨ n = 3 ∨ n = 4 ∨ n = 5 ∨ n = 6 ∨ n = 7 ∨ n = 8 ∨ n = 9 ∨ n = 10 ∨ n = 11 ∨ n = 12 ∨ n = 13 ∨ n = 14 ∨ n = 15 ∨ n = 16 := by omega
 rcases this with rfl | rfl | rfl | rfl | rfl | rfl | rfl | rfl | rfl | rfl | rfl | rfl | rfl | rfl | rfl | rfl | rfl <;> decide +kernel
theorem zaov {i : Nat} (h : i < 16) : ofW 0 ((i : Int) + 1) = true := by
 have p : (0 : Int) < 2 ^ ((i : Int) + 1).toNat := Int.pow_pos (by decide)
 have w1 : isW ((i : Int) + 1) = true := by simp [isW]; omega
 unfold ofW
 rw [w1, decide_eq_true p]
 rfl
theorem hrun {hs : List (Str × Int)} {i : Nat} (h : i < 16) : run hs (hrow i) S0 0 = .inr { S0 with ot := [("big", (i : Int) + 1)] } := by
 have e : wE S0 (.lf (.val 0 ((i : Int) + 1))) = (i : Int) + 1 := by show (if ofW 0 ((i : Int) + 1) = true then (i : Int) + 1 else 0) = _; rw [zaov h]; rfl
 have t : take hs S0 (.out "big" (.lf (.val 0 ((i : Int) + 1)))) = some { S0 with ot := [("big", (i : Int) + 1)] } := by
  have n : ((i : Int) + 1) ≠ 0 := by omega
  simp only [take, e]
  simp [S0, n]
 simp only [hrow, run, t]
structure HlpN (CS : Addr) (H : Hp) (ab u : Addr) (k : Int) : Prop where
 ex : ∃ dx a il wd us kp nx ot : Addr, H u = some (.ins CS dx (fldsS a il wd us kp nx ot)) ∧ H il = some (.lst []) ∧ H ot = some (.dK (kI [("big", k)])) ∧ ot ≠ ab
theorem HlpN.h {CS : Addr} {H : Hp} {ab u : Addr} {k : Int} (h : HlpN CS H ab u k) : Hlp CS H u k := let ⟨dx, a, il, wd, us, kp, nx, ot, a1, a2, a3, _⟩ := h.ex; ⟨dx, a, il, wd, us, kp, nx, ot, a1, a2, a3⟩
theorem HlpN.ch {CS : Addr} {H H' : Hp} {ab u : Addr} {k : Int} (h : HlpN CS H ab u k) (c : Ch [] H H') : HlpN CS H' ab u k := let ⟨dx, a, il, wd, us, kp, nx, ot, a1, a2, a3, n⟩ := h.ex; ⟨dx, a, il, wd, us, kp, nx, ot, c.get a1 (by simp), c.get a2 (by simp), c.get a3 (by simp), n⟩
theorem HlpN.put {CS : Addr} {H : Hp} {ab u : Addr} {k : Int} {ak bk : List (Key × V)} (h : HlpN CS H ab u k) (ha : H ab = some (.dK ak)) : HlpN CS (upd H ab (.dK bk)) ab u k :=
 let ⟨dx, a, il, wd, us, kp, nx, ot, a1, a2, a3, n⟩ := h.ex; ⟨dx, a, il, wd, us, kp, nx, ot, zabc (zacc a1 ha (by intro z; cases z)) a1, zabc (zacc a2 ha (by intro z; cases z)) a2, zabc n a3, n⟩
def UsN (CS : Addr) (H : Hp) (ab : Addr) : List (Str × Int) → List (Key × V) → Prop := Paired fun a kv => kv.1 = .inr a.1 ∧ ∃ u, kv.2 = .ref u ∧ HlpN CS H ab u a.2
theorem UsN.us {CS : Addr} {H : Hp} {ab : Addr} {l : List (Str × Int)} {k : List (Key × V)} (h : UsN CS H ab l k) : UsAt CS H l k := zaax (fun _ _ ⟨a, u, b, d⟩ => ⟨a, u, b, d.h⟩) h
structure FcAt (CS : Addr) (H : Hp) (x : Addr) (S : S9) : Prop where
 ex : ∃ (dx a il wd us kp nx ot : Addr) (ys : List V), H x = some (.ins CS dx (fldsS a il wd us kp nx ot)) ∧ H il = some (.lst ys) ∧ H ot = some (.dK (kI S.ot))
structure MsAt (CM : Addr) (H : Hp) (mps : List Addr) (rows : List Rw9) : Prop where
 l : mps.length = 17
 at_ : ∀ (i : Nat) (p : Addr), mps[i]? = some p → MoAt CM H p (hname i) (mrows rows i)
theorem MsAt.ch {CM : Addr} {H H' : Hp} {mps : List Addr} {rows : List Rw9} (h : MsAt CM H mps rows) (c : Ch [] H H') : MsAt CM H' mps rows := ⟨h.l, fun i p e => (h.at_ i p e).ch c⟩
section
variable {P : Program} {w : World} {K : PySem.W.Frag} {mg : Str → Option Value} {base : Heap} {f : Addr} {fd : FuncData} {k : Nat}
theorem zaec : Nd "sense_of_module" := by decide +kernel
theorem zae3 : Nd "top_sense" := by decide +kernel
theorem av21 : AF (defScope (top 21)) ["modules", "above", "line", "top", "module"] := ⟨by decide +kernel⟩
theorem glx21 : AG (defScope (top 21)) ["sense_of_module", "len", "NoSense"] := ⟨by decide +kernel⟩
def HS : List (Str × Int) := hsK 16
structure TopQ (CS CT : Addr) (H : Hp) (rows : List Rw9) (Q : VK) (E : XK) : Prop where
 y : ∀ S, run HS rows S0 0 = .inr S → ∀ x H', Ch [] H H' → FcAt CS H' x S → Q (.ref x) H'
 n : ∀ i : Nat, run HS rows S0 0 = .inl i → ∀ d H', Ch [] H H' → H' d = some (.xd [("line", .int (49 + (i : Int)))]) → E (.ref CT) (some d) H'
def spTS (CS CM CT : Addr) : Sp := fun vs H Q E => ∃ (ml : Addr) (mps : List Addr) (rows : List Rw9), vs = [.ref ml] ∧ H ml = some (.lst (mps.map V.ref)) ∧ MsAt CM H mps rows ∧ RunS HS rows ∧ TopQ CS CT H rows Q E
theorem scTS : FnScope ["modules", "above", "line", "top", "module"] ["modules"] (defScope (top 21)) := ⟨rfl, rfl, rfl, by decide +kernel, rfl, by decide +kernel, by decide +kernel⟩
theorem zaqu {CS CM CT : Addr} (F : Fun K "top_sense" "top_sense" (top 21) f fd) (cl : Cls K CM) (nN : NoAttr K CM "name") (nR : NoAttr K CM "rows") (Dsense_of_module : DefOk P w K mg base (CXE P w) (k + 1) "sense_of_module" ["module", "above", "line"] (spSM CS CM CT)) (R_NoSense : RaiseOk P w K mg base k "NoSense" CT "line") (z_len : mg "len" = none) : FnOk P w K mg base (CXE P w) (k + 2) f fd ["modules"] (spTS CS CM CT) := by
 have nd := scTS.nd
 refine F.okE scTS (fun vs H Q E h => by obtain ⟨ml, mps, rows, rfl, _⟩ := h; rfl) (fun cdv A outer s H vs Q E hr h => ?_)
 obtain ⟨ml, mps, rows, rfl, hl, ms, rs, tq⟩ := h
 have hrm := hr
 have hu := zac8 hr
 refine ⟨_, (Pr.h (zaad (zaa1 (i := 1) nd rfl (av21.l 1 rfl) zaco) (zaad (zaa1 (i := 2) nd rfl (av21.l 2 rfl) zaab) (zabf (zaa1 (i := 3) nd rfl (av21.l 3 rfl) zacv) (zaad (zacu powE rfl (zact (qv av21 0 rfl)) (zaa2 (i := 4) nd rfl (av21.l 4 rfl)) (zabf (zaa1 (i := 3) nd rfl (av21.l 3 rfl) (zaar Dsense_of_module hr (glx21.g 0 rfl) passE (zaaa (qv av21 4 rfl) (zaaa (qv av21 1 rfl) (zaaa (qv av21 2 rfl) zaac zaag) zaag) zaag) zaec)) (zaad (zacm hu (qv av21 1 rfl) (zaa9 (qv av21 4 rfl) rfl) (qv av21 3 rfl) rfl) (zaaf (zan7 (i := 2) nd rfl (av21.l 2 rfl) (zaau zabo (zaai zaay (glx21.g 1 rfl) z_len PySem.boot_len (zaaa (zaa9 (qv av21 4 rfl) rfl) zaac zabx) zabp zabq) zaab) zaps))))) (zaad (zaaw (zaaq zae1 (qv av21 3 rfl) zacv (nomark _)) (zaaf (zadz R_NoSense hrm (glx21.g 2 rfl) (zaaa (zamz zams zaab) zaac zaf7))) zaak) (zaaf (zaaj (qv av21 3 rfl))))))))), ?_⟩
 (try dsimp only [cxOf])
 walk_at "rd"
 rename_i ab hab
 have ca : Ch [] H (upd H ab (.dK [])) := Ch.new hab _
 refine zab7 (fun σ H' => H' = upd H ab (.dK []) ∧ σ = [some (.ref ml), some (.ref ab), some (.int 0), some .non, none]) ?_ ?_
 ·walk_at "rd"
 rintro σ H' ⟨rfl, rfl⟩
 have hl1 := ca.get hl (by simp)
 walk_at "rd"
 refine zaht (xs := mps.map V.ref) (fun i σ H' => Box (∃ (L : Int) (tv : V) (u : Option V), σ = [some (.ref ml), some (.ref ab), some (.int L), some tv, u] ∧ Ch [] H H' ∧ (i ≤ 16 → L = 3 * (i : Int) ∧ ∃ ak, H' ab = some (.dK ak) ∧ ak.length ≤ i ∧ UsN CS H' ab (hsK i) ak) ∧ (i = 17 → ∃ x S, tv = .ref x ∧ run HS rows S0 0 = .inr S ∧ FcAt CS H' x S))) ⟨0, .non, _, rfl, ca, fun _ => ⟨rfl, [], zaah, Nat.le_refl _, .nil⟩, fun z => absurd z (by decide)⟩ ?_ ?_ ?_
 ·rintro i σ H' hi ⟨L, tv, u, rfl, c, _⟩
  exact SqL.of (c.get hl (by simp))
 ·rintro i z σ H1 hz ⟨L, tv, u, rfl, c1, i1, _⟩
  rw [List.getElem?_map] at hz
  obtain ⟨mp, hq, rfl⟩ := Option.map_eq_some_iff.mp hz
  have hi : i < 17 := by rw [← ms.l]; exact (List.getElem?_eq_some_iff.mp hq).1
  obtain ⟨eL, ak, ga, la, ua⟩ := i1 (by omega)
  have mo := (ms.at_ i mp hq).ch c1
  have abq : AbAt CS H1 ab (hsK i) := ⟨ak, ga, ua.us⟩
  have hnew := zaou (n := i) (by omega)
  refine zab7 (fun σ H' => Box (∃ (x : Addr) (S : S9), σ = [some (.ref ml), some (.ref ab), some (.int L), some (.ref x), some (.ref mp)] ∧ Ch [] H1 H' ∧ SnAt (mrows rows i).length CS H1 H' x (hsK i) S ∧ run (hsK i) (mrows rows i) S0 0 = .inr S)) ?_ ?_
  ·have rsi : RunS (hsK i) (mrows rows i) := by
    by_cases h16 : i < 16
    ·refine ⟨fun S e => ?_⟩
     rw [show mrows rows i = hrow i from if_pos h16, hrun h16] at e
     cases e
     exact ⟨rfl, by simp⟩
    ·rw [show mrows rows i = rows from if_neg h16, show hsK i = HS from by rw [show i = 16 from by omega]; rfl]
     exact rs
   walk_at "rd"
   refine ⟨fun S es x H2 c2 sn => ⟨x, S, rfl, c2, sn, es⟩, fun j ej d H2 c2 hd => ?_⟩
   have h16 : ¬ i < 16 := fun h16 => by
    rw [show mrows rows i = hrow i from if_pos h16, hrun h16] at ej
    cases ej
   have e16 : i = 16 := by omega
   subst e16
   rw [show mrows rows 16 = rows from rfl] at ej
   refine tq.n j ej d H2 (c1.trans c2) ?_
   rw [hd, eL]
   rfl
  rintro σ H2 ⟨x, S, rfl, c2, sn, er⟩
  obtain ⟨dm, rp, ps, hm, hp, pr, rl⟩ := (mo.ch c2).ex
  have fn := fM_n (hname i) (.ref rp)
  have fr := fM_r (hname i) (.ref rp)
  have pl := Paired.length pr
  have ga2 := c2.get ga (by simp)
  have lz : ak.length < sizeLine := by rw [sizeLine_eq]; omega
  walk_at "rd"
  obtain ⟨dx, ab', il, wd, us, kp, nx, ot, ys, uk, ak', sf⟩ := sn.ex
  have no : ot ≠ ab := (zabe ga sf.fr.2.2.2.2.2).symm
  have nv : valV ak (.inr (hname i)) = none := by
   rcases zaft ua.us (hname i) with ⟨_, e⟩ | ⟨_, _, e, _⟩
   ·exact e
   ·rw [hnew] at e; cases e
  refine ⟨L + (((ps.map V.ref).length : Int) + 2), .ref x, _, rfl, Ch.own hab (c1.trans c2), fun h16 => ?_, fun e17 => ?_⟩
  ·have h16 : i < 16 := by omega
   rw [show mrows rows i = hrow i from if_pos h16] at pl
   have pl : ps.length = 1 := pl.symm
   rw [show mrows rows i = hrow i from if_pos h16, hrun h16] at er
   cases er
   refine ⟨by rw [List.length_map, pl, eL]; push_cast; omega, _, zaah, ?_, ?_⟩
   ·have := zab6 ak (.inr (hname i)) (V.ref x)
    omega
   ·rw [zae8 _ nv, zamk]
    have ey : ys = [] := List.length_eq_zero_iff.mp sf.yc
    have nw : HlpN CS H2 ab x ((i : Int) + 1) := ⟨dx, ab', il, wd, us, kp, nx, ot, sf.o, by rw [← ey]; exact sf.i, sf.t, no⟩
    exact zacf ⟨rfl, x, rfl, nw.put ga2⟩ (zaax (fun _ _ ⟨a, u, b, d⟩ => ⟨a, u, b, (d.ch c2).put ga2⟩) ua)
  ·have e16 : i = 16 := by omega
   subst e16
   exact ⟨x, S, rfl, er, dx, ab', il, wd, us, kp, nx, ot, ys, zabc (zacc sf.o ga2 (by intro z; cases z)) sf.o, zabc (zacc sf.i ga2 (by intro z; cases z)) sf.i, zabc no sf.t⟩
 ·rintro σ H1 ⟨L, tv, u, rfl, c1, _, i2⟩
  obtain ⟨x, S, rfl, er, fc⟩ := i2 (by rw [List.length_map]; exact ms.l)
  have q := tq.y S er
  walk_at "rd"
  exact q x _ c1 fc
theorem glx22 : AG (defScope (top 22)) ["top_sense"] := ⟨by decide +kernel⟩
theorem av22 : AF (defScope (top 22)) ["modules"] := ⟨by decide +kernel⟩
structure AskQ (CT : Addr) (H : Hp) (rows : List Rw9) (Q : VK) (E : XK) : Prop where
 y : ∀ S, run HS rows S0 0 = .inr S → ∀ H', Ch [] H H' → Q .non H'
 n : ∀ i : Nat, run HS rows S0 0 = .inl i → ∀ d H', Ch [] H H' → H' d = some (.xd [("line", .int (49 + (i : Int)))]) → E (.ref CT) (some d) H'
def spAsk (CM CT : Addr) : Sp := fun vs H Q E => ∃ (ml : Addr) (mps : List Addr) (rows : List Rw9), vs = [.ref ml] ∧ H ml = some (.lst (mps.map V.ref)) ∧ MsAt CM H mps rows ∧ RunS HS rows ∧ AskQ CT H rows Q E
theorem scAsk : FnScope ["modules"] ["modules"] (defScope (top 22)) := ⟨rfl, rfl, rfl, by decide +kernel, rfl, by decide +kernel, by decide +kernel⟩
theorem zaqv {CS CM CT : Addr} (F : Fun K "ask_sense" "ask_sense" (top 22) f fd) (Dtop_sense : DefOk P w K mg base (CXE P w) k "top_sense" ["modules"] (spTS CS CM CT)) : FnOk P w K mg base (CXE P w) (k + 1) f fd ["modules"] (spAsk CM CT) := by
 have nd := scAsk.nd
 refine F.okE scAsk (fun vs H Q E h => by obtain ⟨ml, mps, rows, rfl, _⟩ := h; rfl) (fun cdv A outer s H vs Q E hr h => ?_)
 obtain ⟨ml, mps, rows, rfl, hl, ms, rs, aq⟩ := h
 refine ⟨_, (Pr.h (zaaf (zada (zaar Dtop_sense hr (glx22.g 0 rfl) passE (zaaa (qv av22 0 rfl) zaac zaag) zae3)))), ?_⟩
 (try dsimp only [cxOf])
 walk_at "rd"
 refine ⟨fun S e x H' c fc => ?_, fun i e d H' c hd => aq.n i e d H' c hd⟩
 exact aq.y S e H' c
theorem av23 : AF (defScope (top 23)) ["modules", "top"] := ⟨by decide +kernel⟩
theorem gl23 : AG (defScope (top 23)) ["top_sense", "list"] := ⟨by decide +kernel⟩
structure FacQ (H : Hp) (rows : List Rw9) (Q : VK) : Prop where
 y : ∀ S, run HS rows S0 0 = .inr S → ∀ (T l0 l1 : Addr) (as : List Addr) H', Ch [] H H' → H' T = some (.tup [.ref l0, .ref l1]) → H' l1 = some (.lst (as.map V.ref)) → Paired (fun kv p => H' p = some (.tup [kV kv.1, kv.2])) (kI S.ot) as → Q (.ref T) H'
def spFac (CM : Addr) : Sp := fun vs H Q _ => ∃ (ml : Addr) (mps : List Addr) (rows : List Rw9) (S : S9), vs = [.ref ml] ∧ H ml = some (.lst (mps.map V.ref)) ∧ MsAt CM H mps rows ∧ RunS HS rows ∧ run HS rows S0 0 = .inr S ∧ FacQ H rows Q
theorem scFac : FnScope ["modules", "top"] ["modules"] (defScope (top 23)) := ⟨rfl, rfl, rfl, by decide +kernel, rfl, by decide +kernel, by decide +kernel⟩
theorem zaqw {CS CM CT : Addr} (F : Fun K "faces" "faces" (top 23) f fd) (cs : Cls K CS) (nI : NoAttr K CS "ins") (nO : NoAttr K CS "outs") (Dtop_sense : DefOk P w K mg base CX0 k "top_sense" ["modules"] (fun vs H Q _ => spTS CS CM CT vs H Q E0)) (z_list : mg "list" = none) : FnOk P w K mg base CX0 (k + 1) f fd ["modules"] (spFac CM) := by
 have nd := scFac.nd
 refine F.ok scFac (fun vs H Q E h => by obtain ⟨ml, mps, rows, S, rfl, _⟩ := h; rfl) (fun cdv A outer s H vs Q E hr h => ?_)
 obtain ⟨ml, mps, rows, S, rfl, hl, ms, rs, er, fq⟩ := h
 have hu := zac8 hr
 refine ⟨_, (Pr.h (zaad (zaa1 (i := 1) nd rfl (av23.l 1 rfl) (zaar Dtop_sense hr (gl23.g 0 rfl) pass0 (zaaa (qv av23 0 rfl) zaac zaag) zae3)) (zaaf (zaaj (zaa4 (zaaa (zabj zahn (gl23.g 1 rfl) z_list zacg (zaaa (zaa9 (qv av23 1 rfl) rfl) zaac zabx) zach zaci) (zaaa (zabj (zajp rfl rfl) (gl23.g 1 rfl) z_list zacg (zaaa (zakt (zaa9 (qv av23 1 rfl) rfl)) zaac zab0) zach zaci) zaac zab0) zab0)))))), ?_⟩
 (try dsimp only [cxOf])
 walk_at "rd"
 refine ⟨fun S' e x H1 c1 fc => ?_, fun i e => by rw [er] at e; cases e⟩
 rw [er] at e
 cases e
 obtain ⟨dx, a, il, wd, us, kp, nx, ot, ys, o1, o2, o3⟩ := fc.ex
 have f1 := fS_i a il wd us kp nx ot
 have f2 := fS_o a il wd us kp nx ot
 walk_at "rd"
 rename_i l0 h0
 have o3' := zaa6 h0 o3 (u := .lst ys)
 refine ⟨.inr (.inr (.inl ⟨rfl, .inl ⟨_, o3'⟩⟩)), ?_⟩
 walk_at "rd"
 rename_i v hv l1 as H2 c2 f2' g2 pr T hT
 have cc := ((c1.trans (Ch.new h0 _)).trans (Ch.new hv _)).trans c2
 exact fq.y S er T l0 l1 as _ (cc.trans (Ch.new hT _)) zaah (zaa6 hT g2) (zaax (fun _ _ h => zaa6 hT h) pr)
end
end

section
structure Th9 where
 kd : Nat
 nm : Str
 w : Int
def lfT (t : Th9) : Lf := if t.kd = 2 then .of t.nm "big" else .nm t.nm
def rowsT (t : Th9) : List Rw9 := if t.kd = 0 then [.inn t.nm t.w] else if t.kd = 1 then [.keep t.nm t.w 0, .nxt t.nm (.lf (.nm t.nm))] else [.use t.nm (hname (t.w - 1).toNat)]
def stT (S : S9) (t : Th9) : S9 := if t.kd = 0 then { S with wd := S.wd ++ [(t.nm, t.w)], ic := S.ic + 1 } else if t.kd = 1 then { S with wd := S.wd ++ [(t.nm, t.w)], kp := S.kp ++ [t.nm], nx := S.nx ++ [t.nm] } else { S with us := S.us ++ [(t.nm, t.w)] }
structure ThOk (t : Th9) : Prop where
 k : t.kd < 3
 w : 1 ≤ t.w ∧ t.w ≤ 16
structure TI (ts : List Th9) (S : S9) : Prop where
 a : ∀ n, (S.wd.lookup n).isSome = true → ∃ t ∈ ts, t.nm = n
 b : ∀ n, (S.us.lookup n).isSome = true → ∃ t ∈ ts, t.nm = n
 c : S.nx = S.kp
 d : ∀ n ∈ S.kp, ∃ t ∈ ts, t.nm = n
 e : S.ot = []
 f : ∀ t ∈ ts, wL S (lfT t) = t.w ∧ if t.kd = 2 then S.us.lookup t.nm = some t.w else S.wd.lookup t.nm = some t.w
theorem zaqx {w : Int} (h : 1 ≤ w ∧ w ≤ 16) : HS.lookup (hname (w - 1).toNat) = some w := by
 have : w = 1 ∨ w = 2 ∨ w = 3 ∨ w = 4 ∨ w = 5 ∨ w = 6 ∨ w = 7 ∨ w = 8 ∨ w = 9 ∨ w = 10 ∨ w = 11 ∨ w = 12 ∨ w = 13 ∨ w = 14 ∨ w = 15 ∨ w = 16 := by omega
 rcases this with rfl | rfl | rfl | rfl | rfl | rfl | rfl | rfl | rfl | rfl | rfl | rfl | rfl | rfl | rfl | rfl <;> decide +kernel
theorem zaed {l : List (Str × Int)} {n a : Str} {v : Int} : (l ++ [(a, v)]).lookup n = (l.lookup n).or (if n = a then some v else none) := by
 rw [List.lookup_append]
 congr 1
 by_cases h : n = a
 ·subst h; simp [List.lookup_cons]
 ·rw [if_neg h, List.lookup_cons, beq_eq_false_iff_ne.mpr h]; rfl
theorem zag1 (hs : List (Str × Int)) : ∀ (as bs : List Rw9) (S : S9) (i : Nat), run hs (as ++ bs) S i = match run hs as S i with
  | .inl j => .inl j
  | .inr S' => run hs bs S' (i + as.length)
 | [], bs, S, i => rfl
 | r :: as, bs, S, i => by
  show (match take hs S r with | none => Sum.inl i | some S' => run hs (as ++ bs) S' (i + 1)) = _
  rw [run]
  cases take hs S r with
  | none => rfl
  | some S' =>
   dsimp only
   rw [zag1 hs as bs S' (i + 1)]
   cases run hs as S' (i + 1) with
   | inl j => rfl
   | inr S'' => dsimp only; rw [List.length_cons]; congr 1; omega
theorem TI.new {ts : List Th9} {S : S9} (h : TI ts S) {n : Str} (hn : ∀ t ∈ ts, t.nm ≠ n) : S.wd.lookup n = none ∧ S.us.lookup n = none ∧ n ∉ S.kp ∧ free S n = true := by
 have h1 : S.wd.lookup n = none := by
  cases e : S.wd.lookup n with
  | none => rfl
  | some v => obtain ⟨t, ht, e⟩ := h.a n (by rw [e]; rfl); exact absurd e (hn t ht)
 have h2 : S.us.lookup n = none := by
  cases e : S.us.lookup n with
  | none => rfl
  | some v => obtain ⟨t, ht, e⟩ := h.b n (by rw [e]; rfl); exact absurd e (hn t ht)
 exact ⟨h1, h2, fun hk => by obtain ⟨t, ht, e⟩ := h.d n hk; exact hn t ht e, by simp [free, h1, h2]⟩
theorem zaja {w : Int} (h : 1 ≤ w ∧ w ≤ 16) : ofW 0 w = true := by
 have p : (0 : Int) < 2 ^ w.toNat := Int.pow_pos (by decide)
 have w1 : isW w = true := by simp [isW]; omega
 unfold ofW
 rw [w1, decide_eq_true p]
 rfl
theorem zarx {S : S9} {n : Str} : wL S (.nm n) = (S.wd.lookup n).getD 0 := rfl
theorem zary {S : S9} {n : Str} {w : Int} (h : S.us.lookup n = some w) : wL S (.of n "big") = w := by
 show (match S.us.lookup n with | none => (0 : Int) | some k => if ("big" : Str) = "big" then k else 0) = w
 rw [h]
 exact if_pos rfl
theorem TI.lf {S : S9} {t : Th9} (h : if t.kd = 2 then S.us.lookup t.nm = some t.w else S.wd.lookup t.nm = some t.w) : wL S (lfT t) = t.w := by
 unfold lfT
 by_cases k : t.kd = 2
 ·rw [if_pos k] at h ⊢
  exact zary h
 ·rw [if_neg k] at h ⊢
  rw [zarx, h]
  rfl
theorem TI.step {ts : List Th9} {S : S9} {t : Th9} (h : TI ts S) (ok : ThOk t) (hn : ∀ u ∈ ts, u.nm ≠ t.nm) (i : Nat) : run HS (rowsT t) S i = .inr (stT S t) ∧ TI (ts ++ [t]) (stT S t) := by
 obtain ⟨h1, h2, h3, h4⟩ := h.new hn
 have mem : ∀ {n : Str}, (∃ u ∈ ts, u.nm = n) → ∃ u ∈ ts ++ [t], u.nm = n := fun ⟨u, hu, e⟩ => ⟨u, List.mem_append_left _ hu, e⟩
 have me : ∃ u ∈ ts ++ [t], u.nm = t.nm := ⟨t, by simp, rfl⟩
 have keepW : ∀ {n : Str} {v : Int}, S.wd.lookup n = some v → (S.wd ++ [(t.nm, t.w)]).lookup n = some v := fun e => by rw [zaed, e]; rfl
 have keepU : ∀ {n : Str} {v : Int}, S.us.lookup n = some v → (S.us ++ [(t.nm, t.w)]).lookup n = some v := fun e => by rw [zaed, e]; rfl
 have newW : (S.wd ++ [(t.nm, t.w)]).lookup t.nm = some t.w := by rw [zaed, h1, if_pos rfl]; rfl
 have newU : (S.us ++ [(t.nm, t.w)]).lookup t.nm = some t.w := by rw [zaed, h2, if_pos rfl]; rfl
 have inW : ∀ n, ((S.wd ++ [(t.nm, t.w)]).lookup n).isSome = true → ∃ u ∈ ts ++ [t], u.nm = n := fun n e => by
  rw [zaed] at e
  by_cases k : n = t.nm
  ·rw [k]; exact me
  ·rw [if_neg k, Option.or_none] at e; exact mem (h.a n e)
 have inU : ∀ n, ((S.us ++ [(t.nm, t.w)]).lookup n).isSome = true → ∃ u ∈ ts ++ [t], u.nm = n := fun n e => by
  rw [zaed] at e
  by_cases k : n = t.nm
  ·rw [k]; exact me
  ·rw [if_neg k, Option.or_none] at e; exact mem (h.b n e)
 have w1 : isW t.w = true := by simp [isW]; exact ok.w
 have k3 := ok.k
 have all : ∀ (S' : S9), (∀ u ∈ ts, (if u.kd = 2 then S.us.lookup u.nm = some u.w else S.wd.lookup u.nm = some u.w) → if u.kd = 2 then S'.us.lookup u.nm = some u.w else S'.wd.lookup u.nm = some u.w) → (if t.kd = 2 then S'.us.lookup t.nm = some t.w else S'.wd.lookup t.nm = some t.w) →
   ∀ u ∈ ts ++ [t], wL S' (lfT u) = u.w ∧ if u.kd = 2 then S'.us.lookup u.nm = some u.w else S'.wd.lookup u.nm = some u.w := fun S' q1 q2 u hu => by
  rcases List.mem_append.mp hu with hu | hu
  ·have := q1 u hu (h.f u hu).2
   exact ⟨TI.lf this, this⟩
  ·rw [List.mem_singleton.mp hu]
   exact ⟨TI.lf q2, q2⟩
 have : t.kd = 0 ∨ t.kd = 1 ∨ t.kd = 2 := by omega
 rcases this with k | k | k
 ·have e : stT S t = { S with wd := S.wd ++ [(t.nm, t.w)], ic := S.ic + 1 } := by simp [stT, k]
  rw [e]
  refine ⟨?_, inW, fun n q => mem (h.b n q), h.c, fun n q => mem (h.d n q), h.e, all _ (fun u hu q => ?_) ?_⟩
  ·simp [rowsT, k, run, take, h4, w1]
  ·by_cases ku : u.kd = 2
   ·rw [if_pos ku] at q ⊢; exact q
   ·rw [if_neg ku] at q ⊢; exact keepW q
  ·rw [if_neg (by omega)]; exact newW
 ·have e : stT S t = { S with wd := S.wd ++ [(t.nm, t.w)], kp := S.kp ++ [t.nm], nx := S.nx ++ [t.nm] } := by simp [stT, k]
  rw [e]
  refine ⟨?_, inW, fun n q => mem (h.b n q), by rw [h.c], fun n q => ?_, h.e, all _ (fun u hu q => ?_) ?_⟩
  ·have nx : t.nm ∉ S.nx := by rw [h.c]; exact h3
   have o := zaja ok.w
   simp only [rowsT, k, if_neg (show ¬ (1 : Nat) = 0 by decide), if_true, run, take, h4, o, Bool.and_self, wE, wL, newW, Option.getD_some]
   simp [nx]
  ·rcases List.mem_append.mp q with q | q
   ·exact mem (h.d n q)
   ·rw [List.mem_singleton.mp q]; exact me
  ·by_cases ku : u.kd = 2
   ·rw [if_pos ku] at q ⊢; exact q
   ·rw [if_neg ku] at q ⊢; exact keepW q
  ·rw [if_neg (by omega)]; exact newW
 ·have e : stT S t = { S with us := S.us ++ [(t.nm, t.w)] } := by simp [stT, k]
  rw [e]
  refine ⟨?_, fun n q => mem (h.a n q), inU, h.c, fun n q => mem (h.d n q), h.e, all _ (fun u hu q => ?_) ?_⟩
  ·have rt : rowsT t = [.use t.nm (hname (t.w - 1).toNat)] := by simp [rowsT, k]
   rw [rt]
   simp only [run, take, zaqx ok.w, h4, if_true]
  ·by_cases ku : u.kd = 2
   ·rw [if_pos ku] at q ⊢; exact keepU q
   ·rw [if_neg ku] at q ⊢; exact q
  ·rw [if_pos k]; exact newU
theorem TI.zero : TI [] S0 := ⟨fun n h => by simp [S0] at h, fun n h => by simp [S0] at h, rfl, fun n h => by simp [S0] at h, rfl, fun t h => by simp at h⟩
inductive Ths : List Th9 → Prop
 | nil : Ths []
 | snoc {ts t} : Ths ts → ThOk t → (∀ u ∈ ts, u.nm ≠ t.nm) → Ths (ts ++ [t])
theorem Ths.run {ts : List Th9} (h : Ths ts) : ∃ S, run HS (ts.flatMap rowsT) S0 0 = .inr S ∧ TI ts S := by
 induction h with
 | nil => exact ⟨S0, rfl, TI.zero⟩
 | @snoc ts t h ok hn ih =>
  obtain ⟨S, e, ti⟩ := ih
  obtain ⟨r, ti2⟩ := ti.step ok hn (0 + (ts.flatMap rowsT).length)
  refine ⟨_, ?_, ti2⟩
  rw [List.flatMap_append, zag1, e]
  dsimp only
  rw [show [t].flatMap rowsT = rowsT t from by simp]
  exact r
inductive Out9
 | val (v w : Int)
 | br (wo : Str) (ts : List Th9)
 | pt (t : Th9) (lw wi : Int)
def tsO : Out9 → List Th9
 | .val _ _ => []
 | .br _ ts => ts
 | .pt t _ _ => [t]
def exO9 : Out9 → Ex9
 | .val v w => .lf (.val v w)
 | .br wo ts => .br wo (ts.map lfT)
 | .pt t lw wi => .pt (lfT t) lw wi
def oW : Out9 → Int
 | .val v w => if ofW v w then w else 0
 | .br wo ts => wW wo (ts.map (·.w))
 | .pt t lw wi => partW t.w lw wi
structure OOk (o : Out9) : Prop where
 t : Ths (tsO o)
 n : ∀ t ∈ tsO o, t.nm ≠ "found" ∧ t.nm ≠ "cell"
theorem Ths.ok {ts : List Th9} (h : Ths ts) : ∀ t ∈ ts, ThOk t := by
 induction h with
 | nil => simp
 | snoc h ok hn ih => intro t ht; rcases List.mem_append.mp ht with ht | ht; exact ih t ht; rw [List.mem_singleton.mp ht]; exact ok
theorem zaow {o : Out9} (ok : OOk o) {S : S9} (h : ∀ t ∈ tsO o, wL S (lfT t) = t.w) : wE S (exO9 o) = oW o := by
 cases o with
 | val v w => rfl
 | br wo ts =>
  have e : (ts.map lfT).map (wL S) = ts.map (·.w) := by
   rw [List.map_map]
   exact List.map_congr_left h
  have n0 : (0 : Int) ∉ ts.map (·.w) := fun z => by
   obtain ⟨t, ht, e⟩ := List.mem_map.mp z
   have := (ok.t.ok t ht).w
   have e : t.w = 0 := e
   omega
  show (if 0 ∈ (ts.map lfT).map (wL S) then 0 else wW wo ((ts.map lfT).map (wL S))) = wW wo (ts.map (·.w))
  rw [e, if_neg n0]
 | pt t lw wi => show partW (wL S (lfT t)) lw wi = _; rw [h t (by simp [tsO])]; rfl
def nO (o : Out9) : Nat := ((tsO o).flatMap rowsT).length
theorem zaqy {S : S9} {t : Th9} {l : Str × Int} (h : if t.kd = 2 then S.us.lookup t.nm = some t.w else S.wd.lookup t.nm = some t.w) (kp nx : List Str) (ot : List (Str × Int)) : wL { S with wd := S.wd ++ [l], kp := kp, nx := nx, ot := ot } (lfT t) = t.w := by
 refine TI.lf ?_
 by_cases k : t.kd = 2
 ·rw [if_pos k] at h ⊢; exact h
 ·rw [if_neg k] at h ⊢
  obtain ⟨a, v⟩ := l
  show (S.wd ++ [(a, v)]).lookup t.nm = _
  rw [zaed, h]; rfl
theorem zarz {S : S9} {t : Th9} (h : if t.kd = 2 then S.us.lookup t.nm = some t.w else S.wd.lookup t.nm = some t.w) (ot : List (Str × Int)) : wL { S with ot := ot } (lfT t) = t.w := TI.lf h
theorem zaqz {o : Out9} (ok : OOk o) : (oW o = 0 → run HS ((tsO o).flatMap rowsT ++ [.out "told" (exO9 o), .lt "found" (exO9 o), .out "again" (.lf (.nm "found"))]) S0 0 = .inl (nO o)) ∧
  (oW o ≠ 0 → ∃ S, run HS ((tsO o).flatMap rowsT ++ [.out "told" (exO9 o), .lt "found" (exO9 o), .out "again" (.lf (.nm "found"))]) S0 0 = .inr S ∧ S.ot = [(("told" : Str), oW o), (("again" : Str), oW o)] ∧ fine S) := by
 obtain ⟨S, e, ti⟩ := ok.t.run
 have w0 := zaow ok (fun t ht => (ti.f t ht).1)
 rw [zag1, e]
 dsimp only
 rw [Nat.zero_add]
 constructor
 ·intro h
  simp only [run, take, w0, h]
  simp [nO]
 ·intro h
  have w1 : wE { S with ot := [(("told" : Str), oW o)] } (exO9 o) = oW o := zaow ok (fun t ht => zarz (ti.f t ht).2 _)
  obtain ⟨f1, f2, f3, f4⟩ := ti.new (n := "found") (fun t ht => (ok.n t ht).1)
  have fr : free { S with ot := [(("told" : Str), oW o)] } "found" = true := f4
  have t1 : take HS S (.out "told" (exO9 o)) = some { S with ot := [(("told" : Str), oW o)] } := by simp only [take, w0, ti.e]; simp [h]
  have t2 : take HS { S with ot := [(("told" : Str), oW o)] } (.lt "found" (exO9 o)) = some { S with wd := S.wd ++ [(("found" : Str), oW o)], ot := [(("told" : Str), oW o)] } := by simp only [take, w1, fr]; simp [h]
  have w2 : wE { S with wd := S.wd ++ [(("found" : Str), oW o)], ot := [(("told" : Str), oW o)] } (.lf (.nm "found")) = oW o := by
   show ((S.wd ++ [(("found" : Str), oW o)]).lookup ("found" : Str)).getD 0 = _
   rw [zaed, f1, if_pos rfl]; rfl
  have la : List.lookup ("again" : Str) [(("told" : Str), oW o)] = none := by
   rw [List.lookup_cons, show (("again" : Str) == "told") = false from by decide +kernel]
   rfl
  have t3 : take HS { S with wd := S.wd ++ [(("found" : Str), oW o)], ot := [(("told" : Str), oW o)] } (.out "again" (.lf (.nm "found"))) = some { S with wd := S.wd ++ [(("found" : Str), oW o)], ot := [(("told" : Str), oW o), (("again" : Str), oW o)] } := by
   simp only [take, w2, la]
   simp [h]
  have er : run HS [.out "told" (exO9 o), .lt "found" (exO9 o), .out "again" (.lf (.nm "found"))] S ((tsO o).flatMap rowsT).length = .inr { S with wd := S.wd ++ [(("found" : Str), oW o)], ot := [(("told" : Str), oW o), (("again" : Str), oW o)] } := by simp only [run, t1, t2, t3]
  exact ⟨_, er, rfl, by show S.nx.length = S.kp.length; rw [ti.c], by simp⟩
theorem zaox {o : Out9} (ok : OOk o) {kw : Int} (hk : 1 ≤ kw ∧ kw ≤ 16) (e2 : Ex9) : (oW o ≠ kw → run HS ((tsO o).flatMap rowsT ++ [.keep "cell" kw 0, .nxt "cell" (exO9 o), .out "told" e2]) S0 0 = .inl (nO o + 1)) ∧
  (oW o = kw → e2 = .lf (.nm "cell") → ∃ S, run HS ((tsO o).flatMap rowsT ++ [.keep "cell" kw 0, .nxt "cell" (exO9 o), .out "told" e2]) S0 0 = .inr S ∧ fine S) := by
 obtain ⟨S, e, ti⟩ := ok.t.run
 obtain ⟨f1, f2, f3, f4⟩ := ti.new (n := "cell") (fun t ht => (ok.n t ht).2)
 have t1 : take HS S (.keep "cell" kw 0) = some { S with wd := S.wd ++ [(("cell" : Str), kw)], kp := S.kp ++ [("cell" : Str)] } := by simp only [take, f4, zaja hk]; simp
 have w1 : wE { S with wd := S.wd ++ [(("cell" : Str), kw)], kp := S.kp ++ [("cell" : Str)] } (exO9 o) = oW o := zaow ok (fun t ht => zaqy (ti.f t ht).2 _ _ _)
 have lc : ((S.wd ++ [(("cell" : Str), kw)]).lookup ("cell" : Str)).getD 0 = kw := by rw [zaed, f1, if_pos rfl]; rfl
 have nn : ("cell" : Str) ∉ S.nx := by rw [ti.c]; exact f3
 rw [zag1, e]
 dsimp only
 rw [Nat.zero_add]
 constructor
 ·intro h
  have t2 : take HS { S with wd := S.wd ++ [(("cell" : Str), kw)], kp := S.kp ++ [("cell" : Str)] } (.nxt "cell" (exO9 o)) = none := by
   simp only [take, w1, lc]
   rw [if_neg (fun z => h z.2.2)]
  simp only [run, t1, t2]
  rfl
 ·intro h he
  subst he
  have t2 : take HS { S with wd := S.wd ++ [(("cell" : Str), kw)], kp := S.kp ++ [("cell" : Str)] } (.nxt "cell" (exO9 o)) = some { S with wd := S.wd ++ [(("cell" : Str), kw)], kp := S.kp ++ [("cell" : Str)], nx := S.nx ++ [("cell" : Str)] } := by
   simp only [take, w1, lc]
   rw [if_pos ⟨by simp, nn, h⟩]
  have w3 : wE { S with wd := S.wd ++ [(("cell" : Str), kw)], kp := S.kp ++ [("cell" : Str)], nx := S.nx ++ [("cell" : Str)] } (.lf (.nm "cell")) = kw := lc
  have k0 : kw ≠ 0 := by omega
  have t3 : take HS { S with wd := S.wd ++ [(("cell" : Str), kw)], kp := S.kp ++ [("cell" : Str)], nx := S.nx ++ [("cell" : Str)] } (.out "told" (.lf (.nm "cell"))) = some { S with wd := S.wd ++ [(("cell" : Str), kw)], kp := S.kp ++ [("cell" : Str)], nx := S.nx ++ [("cell" : Str)], ot := [(("told" : Str), kw)] } := by
   simp only [take, w3]
   simp [k0, ti.e]
  have er : run HS [.keep "cell" kw 0, .nxt "cell" (exO9 o), .out "told" (.lf (.nm "cell"))] S ((tsO o).flatMap rowsT).length = .inr { S with wd := S.wd ++ [(("cell" : Str), kw)], kp := S.kp ++ [("cell" : Str)], nx := S.nx ++ [("cell" : Str)], ot := [(("told" : Str), kw)] } := by simp only [run, t1, t2, t3]
  exact ⟨_, er, by show (S.nx ++ [("cell" : Str)]).length = (S.kp ++ [("cell" : Str)]).length; rw [ti.c], by simp⟩
end

section
def spNext (K : PySem.W.Frag) : Sp := fun vs H Q _ => ∃ (a b : Addr) (ns : List Int) (c : Int), vs = [.ref a, .ref b] ∧ Scr K H a ns ∧ H b = some (.lst [.int c]) ∧ 0 ≤ c ∧ c < 2 ^ 60 ∧
 ∀ (n : Int) (H' : Hp), 0 ≤ n → n < 2147483629 → Ch [b] H H' → H' b = some (.lst [.int (c + 1)]) → Q (.int n) H'
section
variable {P : Program} {w : World} {K : PySem.W.Frag} {mg : Str → Option Value} {base : Heap} {f : Addr} {fd : FuncData} {k : Nat}
theorem av28 : AF (defScope (top 28)) ["_law_script", "_law_at", "_law_cell", "_law_figures", "_law_k", "_law_m"] := ⟨by decide +kernel⟩
theorem gl28 : AG (defScope (top 28)) ["len", "range"] := ⟨by decide +kernel⟩
theorem scNext : FnScope ["_law_script", "_law_at", "_law_cell", "_law_figures", "_law_k", "_law_m"] ["_law_script", "_law_at"] (defScope (top 28)) := ⟨rfl, rfl, rfl, by decide +kernel, rfl, by decide +kernel, by decide +kernel⟩
theorem zaoy (F : Fun K "_law_next" "_law_next" (top 28) f fd) (z_len : mg "len" = none) (z_range : mg "range" = none) :
  FnOk P w K mg base CX0 (k + 1) f fd ["_law_script", "_law_at"] (spNext K) := by
 have nd := scNext.nd
 refine F.ok scNext (fun vs H Q E h => ?_) (fun cdv A outer s H vs Q E hr h => ?_)
 ·obtain ⟨a, b, ns, c, rfl, _⟩ := h
  rfl
 obtain ⟨a, b, ns, c, rfl, hS, hb, h0, h1, q⟩ := h
 refine ⟨_, (Pr.h (zaad (zagr (zaau zabo (zaal zaaz (qv av28 1 rfl) zaab (fun _ _ => rfl)) zaab) (zakk (qv av28 1 rfl) zaab zait)) (zaad (zaa1 (i := 2) nd rfl (av28.l 2 rfl) zaab) (zabf (zaaw (zaaq zaj3 (zaai zaay (gl28.g 0 rfl) z_len PySem.boot_len (zaaa (qv av28 0 rfl) zaac zaag) zabp zabq) zaab (nomark _)) (zaaf (zaa1 (i := 2) nd rfl (av28.l 2 rfl) (zaal zaaz (qv av28 0 rfl) (zaau zabv (zaal zaaz (qv av28 1 rfl) zaab (fun _ _ => rfl)) (zaai zaay (gl28.g 0 rfl) z_len PySem.boot_len (zaaa (qv av28 0 rfl) zaac zaag) zabp zabq)) (fun _ _ => rfl)))) zaak) (zabf (zaaw (zab5 (zaia (zaaq zaj3 (zaai zaay (gl28.g 0 rfl) z_len PySem.boot_len (zaaa (qv av28 0 rfl) zaac zaag) zabp zabq) zaab (nomark _)) (zagp (zaaq zabg (zaau zabv (zaal zaaz (qv av28 0 rfl) zaab (fun _ _ => rfl)) zaab) zaab (nomark _))))) (zaad (zaa1 (i := 3) nd rfl (av28.l 3 rfl) (qv av28 2 rfl)) (zaad (zacu PassesOwn.never rfl (zac5 (gl28.g 1 rfl) z_range (zaaa (zaau zabv (zaau zack (zaal zaaz (qv av28 1 rfl) zaab (fun _ _ => rfl)) (zaai zaay (gl28.g 0 rfl) z_len PySem.boot_len (zaaa (qv av28 0 rfl) zaac zaag) zabp zabq)) zaab) zaac zaa7)) (zaa2 (i := 4) nd rfl (av28.l 4 rfl)) (zaaf (zaa1 (i := 3) nd rfl (av28.l 3 rfl) (zaau zack (qv av28 3 rfl) zaab)))) (zaaf (zaaw (zab5 (zab8 (zaaq zahm (qv av28 3 rfl) (zaa4 (zaaa zaab (zaaa (zamz zams zaab) zaac zaf7) zaae)) rfl) (zabz (zaaq zaje (zaal zaaz (qv av28 1 rfl) zaab (fun _ _ => rfl)) (zaai zaay (gl28.g 0 rfl) z_len PySem.boot_len (zaaa (qv av28 0 rfl) zaac zaag) zabp zabq) (nomark _))))) (zaaf (zaaj (zaau zabv (qv av28 3 rfl) zaab))) zaak)))) zaak) (zaad (zaa1 (i := 5) nd rfl (av28.l 5 rfl) (zaau zabv (zaau zacy (zaau zabo (zaau zabo (zaau zabv (qv av28 2 rfl) zaab) (zaau zacy (zaau zacy (zaal zaaz (qv av28 1 rfl) zaab (fun _ _ => rfl)) (zaal zaaz (qv av28 1 rfl) zaab (fun _ _ => rfl))) zaab)) zaab) zaab) zaab)) (zaad (zaa1 (i := 5) nd rfl (av28.l 5 rfl) (zaau zabv (zaau zacy (qv av28 5 rfl) (qv av28 5 rfl)) zaab)) (zaaf (zaaj (zaau zabv (zaau zacy (zaau zabo (qv av28 5 rfl) (zaau zacy (zaal zaaz (qv av28 1 rfl) zaab (fun _ _ => rfl)) zaab)) zaab) zaab)))))))))), ?_⟩
 have h63 : ns.length ≤ 63 := hS.1
 (try dsimp only [cxOf])
 walk_at "rd"
 refine zab7 (fun σ H' => ∃ n : Int, σ = [some (.ref a), some (.ref b), some (.int n), none, none, none] ∧ Ch [b] H H' ∧ H' b = some (.lst [.int (c + 1)])) ?_ ?_
 ·walk_at "rd"
  refine ite2 (fun hc => ?_) (fun hc => ?_)
  ·have hc' : 0 < (ns.length : Int) := by simpa using hc
   have e1 : 0 ≤ (c + 1) % (ns.length : Int) := Int.emod_nonneg _ (by omega)
   have e2 : (c + 1) % (ns.length : Int) < (ns.length : Int) := Int.emod_lt_of_pos _ hc'
   obtain ⟨n, hn⟩ := zaiw e1 e2
   walk_at "rd"
  ·walk_at "rd"
 ·rintro σ H1 ⟨n, rfl, c1, b1⟩
  have hS1 : Scr K H1 a ns := hS.ch hb c1
  refine zab7 (fun σ H' => ∃ u v w, σ = [some (.ref a), some (.ref b), some (.int n), u, v, w] ∧ Ch [b] H H' ∧ H' b = some (.lst [.int (c + 1)])) ?_ ?_
  ·walk_at "rd"
   refine ite2 (fun hc => ?_) (fun hc => iteF ?_)
   ·have hc' : 0 < (ns.length : Int) := by simpa using hc
    obtain ⟨n0, hn0⟩ := zaiw (ns := ns) (i := 0) (by omega) hc'
    walk_at "rd"
    refine ite2 (fun hd => ?_) (fun hd => ?_)
    ·walk_at "rd"
     refine zac2 (fun i σ H' => H' = H1 ∧ ∃ g kk, σ = [some (.ref a), some (.ref b), some (.int n), some (.int g), kk, none]) ⟨rfl, _, _, rfl⟩ ?_ ?_
     ·rintro i σ H' hi ⟨rfl, g, kk, rfl⟩
      walk_at "rd"
     ·rintro σ H' ⟨rfl, g, kk, rfl⟩
      walk_at "rd"
      refine ite2 (fun hd => iteT ?_) (fun hd => ?_)
      ·walk_at "rd"
       exact q _ _ (Int.emod_nonneg _ (by decide)) (Int.lt_of_lt_of_le (Int.emod_lt_of_pos _ (by decide)) (by decide)) (c1.trans (Ch.new (by assumption) _)) (by walk_at "get")
      ·walk_at "rd"
       refine ite2 (fun he => ?_) (fun he => ?_)
       ·walk_at "rd"
        exact q _ _ (Int.emod_nonneg _ (by decide)) (Int.lt_of_lt_of_le (Int.emod_lt_of_pos _ (by decide)) (by decide)) (c1.trans (Ch.new (by assumption) _)) (by walk_at "get")
       ·walk_at "rd"
    ·walk_at "rd"
   ·walk_at "rd"
  ·rintro σ H2 ⟨u, v, w, rfl, c2, b2⟩
   walk_at "rd"
   exact q _ _ (Int.emod_nonneg _ (by decide)) (Int.emod_lt_of_pos _ (by decide)) c2 b2
end
end

section
section
variable {P : Program} {w : World} {K : PySem.W.Frag} {mg : Str → Option Value} {base : Heap} {f : Addr} {fd : FuncData} {k : Nat}
theorem zaer : bootBuiltins "dict" = some (.type "dict") := by decide +kernel
theorem zaes : ("dict" : Str) ≠ "__name__" := by decide +kernel
theorem zaet : Nd "dict" := by decide +kernel
theorem zage : bootBuiltins "all" = some (.builtin "all") := by decide +kernel
theorem zabi : Nd "_law_same" := by decide +kernel
theorem zagf : ("all" : Str) ≠ "__name__" := by decide +kernel
theorem zagg : Nd "all" := by decide +kernel
theorem zagh : bootBuiltins "str" = some (.type "str") := by decide +kernel
theorem zagi : ("str" : Str) ≠ "__name__" := by decide +kernel
theorem zagj : Nd "str" := by decide +kernel
theorem zaij : bootBuiltins "bool" = some (.type "bool") := by decide +kernel
theorem zaik : ("bool" : Str) ≠ "__name__" := by decide +kernel
theorem zail : Nd "bool" := by decide +kernel
theorem zadm : bootBuiltins "int" = some (.type "int") := by decide +kernel
theorem zadn : ("int" : Str) ≠ "__name__" := by decide +kernel
theorem zado : Nd "int" := by decide +kernel
theorem av29 : AF (defScope (top 29)) ["_law_found", "_law_due"] := ⟨by decide +kernel⟩
theorem gl29 : AG (defScope (top 29)) ["isinstance", "dict", "len", "all", "tuple", "list", "zip", "str", "bool", "int"] := ⟨by decide +kernel⟩
def zag2 : Scope := { kind := PySem.ScopeKind.function, names := [ (PySem.Str.ofString ".0", PySem.NameKind.local), (PySem.Str.ofString "_law_name", PySem.NameKind.local), (PySem.Str.ofString "_law_same", PySem.NameKind.globalImplicit), (PySem.Str.ofString "_law_due", PySem.NameKind.free), (PySem.Str.ofString "_law_found", PySem.NameKind.free)], isGenerator := false, isCoroutine := false, more := [] : PySem.Scope }
theorem zaeu : CompOk zag2 (defScope (top 29)) (["_law_name"] : List Str) (["_law_found", "_law_due"] : List Str) [0, 1] (["_law_name", "_law_found", "_law_due"] : List Str) := compOk rfl (by decide +kernel) (by decide +kernel) (by decide +kernel) (by decide +kernel) rfl (by decide +kernel)
theorem zaev : AK (relab zag2 (defScope (top 29))) ["_law_name"] := ⟨by decide +kernel⟩
theorem zaim : AG (relab zag2 (defScope (top 29))) ["_law_same"] := ⟨by decide +kernel⟩
theorem zab1 : AV (relab zag2 (defScope (top 29))) ["_law_name", "_law_found", "_law_due"] := ⟨by decide +kernel⟩
def zag3 : Scope := { kind := PySem.ScopeKind.function, names := [ (PySem.Str.ofString ".0", PySem.NameKind.local), (PySem.Str.ofString "_law_one", PySem.NameKind.local), (PySem.Str.ofString "_law_other", PySem.NameKind.local), (PySem.Str.ofString "_law_same", PySem.NameKind.globalImplicit)], isGenerator := false, isCoroutine := false, more := [] : PySem.Scope }
theorem zadf : CompOk zag3 (defScope (top 29)) (["_law_one", "_law_other"] : List Str) (["_law_found", "_law_due"] : List Str) [] (["_law_one", "_law_other"] : List Str) := compOk rfl (by decide +kernel) (by decide +kernel) (by decide +kernel) (by decide +kernel) rfl (by decide +kernel)
theorem zacs : AK (relab zag3 (defScope (top 29))) ["_law_one", "_law_other"] := ⟨by decide +kernel⟩
theorem zain : AG (relab zag3 (defScope (top 29))) ["_law_same"] := ⟨by decide +kernel⟩
theorem zaew : AV (relab zag3 (defScope (top 29))) ["_law_one", "_law_other"] := ⟨by decide +kernel⟩
structure EqvS (n : Nat) (H : Hp) (x y : V) : Prop where
 h : Eqv n H x y
def spSame (n : Nat) : Sp := fun vs H Q _ => ∃ (x y : V), vs = [x, y] ∧ EqvS n H x y ∧ ∀ H', Ch [] H H' → Q (.bl true) H'
theorem scSame : FnScope ["_law_found", "_law_due"] ["_law_found", "_law_due"] (defScope (top 29)) := ⟨rfl, rfl, rfl, by decide +kernel, rfl, by decide +kernel, by decide +kernel⟩
theorem zaml (F : Fun K "_law_same" "_law_same" (top 29) f fd) : FnOk P w K mg base CX0 (k + 1) f fd ["_law_found", "_law_due"] (spSame 0) :=
 F.ok scSame (fun vs H Q E h => by obtain ⟨x, y, rfl, _⟩ := h; rfl) (fun cdv A outer s H vs Q E hr h => by obtain ⟨_, _, _, e, _⟩ := h; exact e.h.elim)
theorem zaio (n : Nat) (F : Fun K "_law_same" "_law_same" (top 29) f fd) (D_law_same : DefOk P w K mg base CX0 k "_law_same" ["_law_found", "_law_due"] (spSame n)) (z_isinstance : mg "isinstance" = none) (z_dict : mg "dict" = none) (z_list : mg "list" = none) (z_tuple : mg "tuple" = none) (z_str : mg "str" = none) (z_int : mg "int" = none) (z_bool : mg "bool" = none) (z_len : mg "len" = none) (z_all : mg "all" = none) (z_zip : mg "zip" = none) :
  FnOk P w K mg base CX0 (k + 1) f fd ["_law_found", "_law_due"] (spSame (n + 1)) := by
 have nd := scSame.nd
 refine F.ok scSame (fun vs H Q E h => by obtain ⟨x, y, rfl, _⟩ := h; rfl) (fun cdv A outer s H vs Q E hr h => ?_)
 obtain ⟨x, y, rfl, ⟨e⟩, q⟩ := h
 rcases e with ⟨kk, rfl, rfl⟩ | ⟨p, r, xs, ys, kd, rfl, rfl, g1, g2, pr, l⟩
 ·refine ⟨_, (Pr.h (zaad (zaaw (zaaq zae1 (qv av29 1 rfl) zacv (nomark _)) (zaaf (zaaj (zabd zae1 (qv av29 0 rfl) zacv (nomark _)))) zaak) (zaad (zaaw (zaba (zaai zaa3 (gl29.g 0 rfl) z_isinstance zaam (zaaa (qv av29 1 rfl) (zaaa (zaa0 (v := .ty "dict") (gl29.g 1 rfl) z_dict zaer rfl zaes zaet) zaac)) zaan zaao)) (zaad (zaaw (zab5 (zab8 (zacd (zaba (zaai zaa3 (gl29.g 0 rfl) z_isinstance zaam (zaaa (qv av29 0 rfl) (zaaa (zaa0 (v := .ty "dict") (gl29.g 1 rfl) z_dict zaer rfl zaes zaet) zaac)) zaan zaao))) (zabz (zaaq zadh (zaai zaay (gl29.g 2 rfl) z_len PySem.boot_len (zaaa (qv av29 0 rfl) zaac zaag) zabp zabq) (zaai zaay (gl29.g 2 rfl) z_len PySem.boot_len (zaaa (qv av29 1 rfl) zaac zaag) zabp zabq) (nomark _))))) (zaaf (zaaj zabm)) zaak) (zaaf (zaaj (zaai (zadw rfl) (gl29.g 3 rfl) z_all zage (zaaa (zacb rfl zaeu (zact (qv av29 1 rfl)) (fun _ _ _ _ _ => (zaa2 (i := 0) zaeu.nd rfl (Or.inl (zaev.k 0 rfl)) (Or.inr (zaev.k 0 rfl)))) (fun _ _ _ _ _ => zab4) (fun _ _ _ _ _ => (zabw (zabd (zaen K rfl) (qw zab1 0 rfl) (qw zab1 1 rfl) rfl) (zab3 (zaar D_law_same hr (zaim.g 0 rfl) pass0 (zaaa (zaal (zaeb K rfl) (qw zab1 1 rfl) (qw zab1 0 rfl) (fun _ _ => rfl)) (zaaa (zaal (zaeb K rfl) (qw zab1 2 rfl) (qw zab1 0 rfl) (fun _ _ => rfl)) zaac zaas) zaas) zabi))))) zaac zaby) zagf zagg)))) zaak) (zaad (zaaw (zab5 (zab8 (zaba (zaai zaa3 (gl29.g 0 rfl) z_isinstance zaam (zaaa (qv av29 1 rfl) (zaaa (zaa0 (v := .ty "list") (gl29.g 5 rfl) z_list zacg rfl zach zaci) zaac)) zaan zaao)) (zabz (zaba (zaai zaa3 (gl29.g 0 rfl) z_isinstance zaam (zaaa (qv av29 1 rfl) (zaaa (zaa0 (v := .ty "tuple") (gl29.g 4 rfl) z_tuple zabs rfl zabt zabu) zaac)) zaan zaao))))) (zaad (zaaw (zaaq zadh (zaai zaa3 (gl29.g 0 rfl) z_isinstance zaam (zaaa (qv av29 0 rfl) (zaaa (zaa0 (v := .ty "list") (gl29.g 5 rfl) z_list zacg rfl zach zaci) zaac)) zaan zaao) (zaai zaa3 (gl29.g 0 rfl) z_isinstance zaam (zaaa (qv av29 1 rfl) (zaaa (zaa0 (v := .ty "list") (gl29.g 5 rfl) z_list zacg rfl zach zaci) zaac)) zaan zaao) (nomark _)) (zaaf (zaaj zabm)) zaak) (zaad (zaaw (zab5 (zab8 (zaaq zadh (zaai zaa3 (gl29.g 0 rfl) z_isinstance zaam (zaaa (qv av29 0 rfl) (zaaa (zaa0 (v := .ty "tuple") (gl29.g 4 rfl) z_tuple zabs rfl zabt zabu) zaac)) zaan zaao) (zaai zaa3 (gl29.g 0 rfl) z_isinstance zaam (zaaa (qv av29 1 rfl) (zaaa (zaa0 (v := .ty "tuple") (gl29.g 4 rfl) z_tuple zabs rfl zabt zabu) zaac)) zaan zaao) (nomark _)) (zabz (zaaq zadh (zaai zaay (gl29.g 2 rfl) z_len PySem.boot_len (zaaa (qv av29 0 rfl) zaac zaag) zabp zabq) (zaai zaay (gl29.g 2 rfl) z_len PySem.boot_len (zaaa (qv av29 1 rfl) zaac zaag) zabp zabq) (nomark _))))) (zaaf (zaaj zabm)) zaak) (zaaf (zaaj (zaai (zadw rfl) (gl29.g 3 rfl) z_all zage (zaaa (zacb rfl zadf (zaib .list .list (gl29.g 6 rfl) z_zip (zaaa (qv av29 0 rfl) (zaaa (qv av29 1 rfl) zaac zaag) zaag)) (fun _ _ _ _ _ => (zady K 2 rfl rfl (zabb (zaa2 (i := 0) zadf.nd rfl (Or.inl (zacs.k 0 rfl)) (Or.inr (zacs.k 0 rfl))) (zabb (zaa2 (i := 1) zadf.nd rfl (Or.inl (zacs.k 1 rfl)) (Or.inr (zacs.k 1 rfl))) zacl)))) (fun _ _ _ _ _ => zab4) (fun _ _ _ _ _ => (zaar D_law_same hr (zain.g 0 rfl) pass0 (zaaa (qw zaew 0 rfl) (zaaa (qw zaew 1 rfl) zaac zaag) zaag) zabi))) zaac zaby) zagf zagg))))) zaak) (zaad (zaaw (zaba (zaai zaa3 (gl29.g 0 rfl) z_isinstance zaam (zaaa (qv av29 1 rfl) (zaaa (zaa0 (v := .ty "str") (gl29.g 7 rfl) z_str zagh rfl zagi zagj) zaac)) zaan zaao)) (zaaf (zaaj (zabw (zaai zaa3 (gl29.g 0 rfl) z_isinstance zaam (zaaa (qv av29 0 rfl) (zaaa (zaa0 (v := .ty "str") (gl29.g 7 rfl) z_str zagh rfl zagi zagj) zaac)) zaan zaao) (zab3 (zabd zabg (qv av29 0 rfl) (qv av29 1 rfl) (nomark _)))))) zaak) (zaaf (zaaj (zabw (zaai zaa3 (gl29.g 0 rfl) z_isinstance zaam (zaaa (qv av29 0 rfl) (zaaa (zaa0 (v := .ty "int") (gl29.g 9 rfl) z_int zadm rfl zadn zado) zaac)) zaan zaao) (zabw (zah9 (zaai zaa3 (gl29.g 0 rfl) z_isinstance zaam (zaaa (qv av29 0 rfl) (zaaa (zaa0 (v := .ty "bool") (gl29.g 8 rfl) z_bool zaij rfl zaik zail) zaac)) zaan zaao)) (zab3 (zabd zabg (qv av29 0 rfl) (qv av29 1 rfl) (nomark _)))))))))))), ?_⟩
  (try dsimp only [cxOf])
  cases kk with
  | inl b =>
   dsimp only [kV]
   walk_at "rd"
   rw [decide_eq_true rfl]
   exact q _ (Ch.refl _ _)
  | inr b =>
   dsimp only [kV]
   walk_at "rd"
   rw [decide_eq_true rfl]
   exact q _ (Ch.refl _ _)
 ·have el := Paired.length pr
  cases kd with
  | list =>
   have g1 : H p = some (.lst xs) := g1
   have g2 : H r = some (.lst ys) := g2
   refine ⟨_, (Pr.h (zaad (zaaw (zaaq zae1 (qv av29 1 rfl) zacv (nomark _)) (zaaf (zaaj (zabd zae1 (qv av29 0 rfl) zacv (nomark _)))) zaak) (zaad (zaaw (zaba (zaai zaa3 (gl29.g 0 rfl) z_isinstance zaam (zaaa (qv av29 1 rfl) (zaaa (zaa0 (v := .ty "dict") (gl29.g 1 rfl) z_dict zaer rfl zaes zaet) zaac)) zaan zaao)) (zaad (zaaw (zab5 (zab8 (zacd (zaba (zaai zaa3 (gl29.g 0 rfl) z_isinstance zaam (zaaa (qv av29 0 rfl) (zaaa (zaa0 (v := .ty "dict") (gl29.g 1 rfl) z_dict zaer rfl zaes zaet) zaac)) zaan zaao))) (zabz (zaaq zadh (zaai zaay (gl29.g 2 rfl) z_len PySem.boot_len (zaaa (qv av29 0 rfl) zaac zaag) zabp zabq) (zaai zaay (gl29.g 2 rfl) z_len PySem.boot_len (zaaa (qv av29 1 rfl) zaac zaag) zabp zabq) (nomark _))))) (zaaf (zaaj zabm)) zaak) (zaaf (zaaj (zaai (zadw rfl) (gl29.g 3 rfl) z_all zage (zaaa (zacb rfl zaeu (zact (qv av29 1 rfl)) (fun _ _ _ _ _ => (zaa2 (i := 0) zaeu.nd rfl (Or.inl (zaev.k 0 rfl)) (Or.inr (zaev.k 0 rfl)))) (fun _ _ _ _ _ => zab4) (fun _ _ _ _ _ => (zabw (zabd (zaen K rfl) (qw zab1 0 rfl) (qw zab1 1 rfl) rfl) (zab3 (zaar D_law_same hr (zaim.g 0 rfl) pass0 (zaaa (zaal (zaeb K rfl) (qw zab1 1 rfl) (qw zab1 0 rfl) (fun _ _ => rfl)) (zaaa (zaal (zaeb K rfl) (qw zab1 2 rfl) (qw zab1 0 rfl) (fun _ _ => rfl)) zaac zaas) zaas) zabi))))) zaac zaby) zagf zagg)))) zaak) (zaad (zaaw (zab5 (zab8 (zaba (zaai zaa3 (gl29.g 0 rfl) z_isinstance zaam (zaaa (qv av29 1 rfl) (zaaa (zaa0 (v := .ty "list") (gl29.g 5 rfl) z_list zacg rfl zach zaci) zaac)) zaan zaao)) (zabz (zaba (zaai zaa3 (gl29.g 0 rfl) z_isinstance zaam (zaaa (qv av29 1 rfl) (zaaa (zaa0 (v := .ty "tuple") (gl29.g 4 rfl) z_tuple zabs rfl zabt zabu) zaac)) zaan zaao))))) (zaad (zaaw (zaaq zadh (zaai zaa3 (gl29.g 0 rfl) z_isinstance zaam (zaaa (qv av29 0 rfl) (zaaa (zaa0 (v := .ty "list") (gl29.g 5 rfl) z_list zacg rfl zach zaci) zaac)) zaan zaao) (zaai zaa3 (gl29.g 0 rfl) z_isinstance zaam (zaaa (qv av29 1 rfl) (zaaa (zaa0 (v := .ty "list") (gl29.g 5 rfl) z_list zacg rfl zach zaci) zaac)) zaan zaao) (nomark _)) (zaaf (zaaj zabm)) zaak) (zaad (zaaw (zab5 (zab8 (zaaq zadh (zaai zaa3 (gl29.g 0 rfl) z_isinstance zaam (zaaa (qv av29 0 rfl) (zaaa (zaa0 (v := .ty "tuple") (gl29.g 4 rfl) z_tuple zabs rfl zabt zabu) zaac)) zaan zaao) (zaai zaa3 (gl29.g 0 rfl) z_isinstance zaam (zaaa (qv av29 1 rfl) (zaaa (zaa0 (v := .ty "tuple") (gl29.g 4 rfl) z_tuple zabs rfl zabt zabu) zaac)) zaan zaao) (nomark _)) (zabz (zaaq zadh (zaai zaay (gl29.g 2 rfl) z_len PySem.boot_len (zaaa (qv av29 0 rfl) zaac zaag) zabp zabq) (zaai zaay (gl29.g 2 rfl) z_len PySem.boot_len (zaaa (qv av29 1 rfl) zaac zaag) zabp zabq) (nomark _))))) (zaaf (zaaj zabm)) zaak) (zaaf (zaaj (zaai (zadw rfl) (gl29.g 3 rfl) z_all zage (zaaa (zacb rfl zadf (zaib .list .list (gl29.g 6 rfl) z_zip (zaaa (qv av29 0 rfl) (zaaa (qv av29 1 rfl) zaac zaag) zaag)) (fun _ _ _ _ _ => (zady K 2 rfl rfl (zabb (zaa2 (i := 0) zadf.nd rfl (Or.inl (zacs.k 0 rfl)) (Or.inr (zacs.k 0 rfl))) (zabb (zaa2 (i := 1) zadf.nd rfl (Or.inl (zacs.k 1 rfl)) (Or.inr (zacs.k 1 rfl))) zacl)))) (fun _ _ _ _ _ => zab4) (fun _ _ _ _ _ => (zaar D_law_same hr (zain.g 0 rfl) pass0 (zaaa (qw zaew 0 rfl) (zaaa (qw zaew 1 rfl) zaac zaag) zaag) zabi))) zaac zaby) zagf zagg))))) zaak) (zaad (zaaw (zaba (zaai zaa3 (gl29.g 0 rfl) z_isinstance zaam (zaaa (qv av29 1 rfl) (zaaa (zaa0 (v := .ty "str") (gl29.g 7 rfl) z_str zagh rfl zagi zagj) zaac)) zaan zaao)) (zaaf (zaaj (zabw (zaai zaa3 (gl29.g 0 rfl) z_isinstance zaam (zaaa (qv av29 0 rfl) (zaaa (zaa0 (v := .ty "str") (gl29.g 7 rfl) z_str zagh rfl zagi zagj) zaac)) zaan zaao) (zab3 (zabd zabg (qv av29 0 rfl) (qv av29 1 rfl) (nomark _)))))) zaak) (zaaf (zaaj (zabw (zaai zaa3 (gl29.g 0 rfl) z_isinstance zaam (zaaa (qv av29 0 rfl) (zaaa (zaa0 (v := .ty "int") (gl29.g 9 rfl) z_int zadm rfl zadn zado) zaac)) zaan zaao) (zabw (zah9 (zaai zaa3 (gl29.g 0 rfl) z_isinstance zaam (zaaa (qv av29 0 rfl) (zaaa (zaa0 (v := .ty "bool") (gl29.g 8 rfl) z_bool zaij rfl zaik zail) zaac)) zaan zaao)) (zab3 (zabd zabg (qv av29 0 rfl) (qv av29 1 rfl) (nomark _)))))))))))), ?_⟩
   (try dsimp only [cxOf])
   walk_at "rd"
   refine iteNn (by rw [el]) ?_
   walk_at "rd"
   refine zaiy xs ys (fun j zs σ H' => Ch [] H H' ∧ zs = List.replicate j (V.bl true) ∧ ∃ u v, σ = [u, v]) (by rw [sizeLine_eq]; omega) el ⟨Ch.refl _ _, rfl, _, _, rfl⟩ ?_ ?_ ?_
   ·rintro j zs σ H' hj ⟨c, rfl, _⟩
    exact ⟨by simp, SqL.of (c.get g1 (by simp)), SqL.of (c.get g2 (by simp))⟩
   ·rintro j zs σ H' x z T hx hz ⟨c, rfl, u, v, rfl⟩ hT
    obtain ⟨j1, rfl⟩ := List.getElem?_eq_some_iff.mp hx
    obtain ⟨j2, rfl⟩ := List.getElem?_eq_some_iff.mp hz
    have ee : EqvS n (upd H' T (.tup [xs[j], ys[j]])) xs[j] ys[j] := ⟨Eqv.ch (c.trans (Ch.new hT _)) (zacx pr j j1 j2)⟩
    walk_at "rd"
    exact ⟨by rw [← List.replicate_succ'], _, _, rfl⟩
   ·rintro zs σ H' ⟨c, rfl, _⟩
    intro D hD
    refine ⟨D, List.replicate xs.length true, rfl, by rw [zaah, List.map_replicate], ?_⟩
    rw [show (List.replicate xs.length true).all id = true from by simp [List.all_replicate]]
    exact q _ (c.trans (Ch.new hD _))
  | tuple =>
   have g1 : H p = some (.tup xs) := g1
   have g2 : H r = some (.tup ys) := g2
   refine ⟨_, (Pr.h (zaad (zaaw (zaaq zae1 (qv av29 1 rfl) zacv (nomark _)) (zaaf (zaaj (zabd zae1 (qv av29 0 rfl) zacv (nomark _)))) zaak) (zaad (zaaw (zaba (zaai zaa3 (gl29.g 0 rfl) z_isinstance zaam (zaaa (qv av29 1 rfl) (zaaa (zaa0 (v := .ty "dict") (gl29.g 1 rfl) z_dict zaer rfl zaes zaet) zaac)) zaan zaao)) (zaad (zaaw (zab5 (zab8 (zacd (zaba (zaai zaa3 (gl29.g 0 rfl) z_isinstance zaam (zaaa (qv av29 0 rfl) (zaaa (zaa0 (v := .ty "dict") (gl29.g 1 rfl) z_dict zaer rfl zaes zaet) zaac)) zaan zaao))) (zabz (zaaq zadh (zaai zaay (gl29.g 2 rfl) z_len PySem.boot_len (zaaa (qv av29 0 rfl) zaac zaag) zabp zabq) (zaai zaay (gl29.g 2 rfl) z_len PySem.boot_len (zaaa (qv av29 1 rfl) zaac zaag) zabp zabq) (nomark _))))) (zaaf (zaaj zabm)) zaak) (zaaf (zaaj (zaai (zadw rfl) (gl29.g 3 rfl) z_all zage (zaaa (zacb rfl zaeu (zaek (qv av29 1 rfl)) (fun _ _ _ _ _ => (zaa2 (i := 0) zaeu.nd rfl (Or.inl (zaev.k 0 rfl)) (Or.inr (zaev.k 0 rfl)))) (fun _ _ _ _ _ => zab4) (fun _ _ _ _ _ => (zabw (zabd (zaen K rfl) (qw zab1 0 rfl) (qw zab1 1 rfl) rfl) (zab3 (zaar D_law_same hr (zaim.g 0 rfl) pass0 (zaaa (zaal (zafc K rfl) (qw zab1 1 rfl) (qw zab1 0 rfl) (fun _ _ => rfl)) (zaaa (zaal (zafc K rfl) (qw zab1 2 rfl) (qw zab1 0 rfl) (fun _ _ => rfl)) zaac zaas) zaas) zabi))))) zaac zaby) zagf zagg)))) zaak) (zaad (zaaw (zab5 (zab8 (zaba (zaai zaa3 (gl29.g 0 rfl) z_isinstance zaam (zaaa (qv av29 1 rfl) (zaaa (zaa0 (v := .ty "list") (gl29.g 5 rfl) z_list zacg rfl zach zaci) zaac)) zaan zaao)) (zabz (zaba (zaai zaa3 (gl29.g 0 rfl) z_isinstance zaam (zaaa (qv av29 1 rfl) (zaaa (zaa0 (v := .ty "tuple") (gl29.g 4 rfl) z_tuple zabs rfl zabt zabu) zaac)) zaan zaao))))) (zaad (zaaw (zaaq zadh (zaai zaa3 (gl29.g 0 rfl) z_isinstance zaam (zaaa (qv av29 0 rfl) (zaaa (zaa0 (v := .ty "list") (gl29.g 5 rfl) z_list zacg rfl zach zaci) zaac)) zaan zaao) (zaai zaa3 (gl29.g 0 rfl) z_isinstance zaam (zaaa (qv av29 1 rfl) (zaaa (zaa0 (v := .ty "list") (gl29.g 5 rfl) z_list zacg rfl zach zaci) zaac)) zaan zaao) (nomark _)) (zaaf (zaaj zabm)) zaak) (zaad (zaaw (zab5 (zab8 (zaaq zadh (zaai zaa3 (gl29.g 0 rfl) z_isinstance zaam (zaaa (qv av29 0 rfl) (zaaa (zaa0 (v := .ty "tuple") (gl29.g 4 rfl) z_tuple zabs rfl zabt zabu) zaac)) zaan zaao) (zaai zaa3 (gl29.g 0 rfl) z_isinstance zaam (zaaa (qv av29 1 rfl) (zaaa (zaa0 (v := .ty "tuple") (gl29.g 4 rfl) z_tuple zabs rfl zabt zabu) zaac)) zaan zaao) (nomark _)) (zabz (zaaq zadh (zaai zaay (gl29.g 2 rfl) z_len PySem.boot_len (zaaa (qv av29 0 rfl) zaac zaag) zabp zabq) (zaai zaay (gl29.g 2 rfl) z_len PySem.boot_len (zaaa (qv av29 1 rfl) zaac zaag) zabp zabq) (nomark _))))) (zaaf (zaaj zabm)) zaak) (zaaf (zaaj (zaai (zadw rfl) (gl29.g 3 rfl) z_all zage (zaaa (zacb rfl zadf (zaib .tuple .tuple (gl29.g 6 rfl) z_zip (zaaa (qv av29 0 rfl) (zaaa (qv av29 1 rfl) zaac zaag) zaag)) (fun _ _ _ _ _ => (zady K 2 rfl rfl (zabb (zaa2 (i := 0) zadf.nd rfl (Or.inl (zacs.k 0 rfl)) (Or.inr (zacs.k 0 rfl))) (zabb (zaa2 (i := 1) zadf.nd rfl (Or.inl (zacs.k 1 rfl)) (Or.inr (zacs.k 1 rfl))) zacl)))) (fun _ _ _ _ _ => zab4) (fun _ _ _ _ _ => (zaar D_law_same hr (zain.g 0 rfl) pass0 (zaaa (qw zaew 0 rfl) (zaaa (qw zaew 1 rfl) zaac zaag) zaag) zabi))) zaac zaby) zagf zagg))))) zaak) (zaad (zaaw (zaba (zaai zaa3 (gl29.g 0 rfl) z_isinstance zaam (zaaa (qv av29 1 rfl) (zaaa (zaa0 (v := .ty "str") (gl29.g 7 rfl) z_str zagh rfl zagi zagj) zaac)) zaan zaao)) (zaaf (zaaj (zabw (zaai zaa3 (gl29.g 0 rfl) z_isinstance zaam (zaaa (qv av29 0 rfl) (zaaa (zaa0 (v := .ty "str") (gl29.g 7 rfl) z_str zagh rfl zagi zagj) zaac)) zaan zaao) (zab3 (zabd (zam2 hr.units) (qv av29 0 rfl) (qv av29 1 rfl) (nomark _)))))) zaak) (zaaf (zaaj (zabw (zaai zaa3 (gl29.g 0 rfl) z_isinstance zaam (zaaa (qv av29 0 rfl) (zaaa (zaa0 (v := .ty "int") (gl29.g 9 rfl) z_int zadm rfl zadn zado) zaac)) zaan zaao) (zabw (zah9 (zaai zaa3 (gl29.g 0 rfl) z_isinstance zaam (zaaa (qv av29 0 rfl) (zaaa (zaa0 (v := .ty "bool") (gl29.g 8 rfl) z_bool zaij rfl zaik zail) zaac)) zaan zaao)) (zab3 (zabd (zam2 hr.units) (qv av29 0 rfl) (qv av29 1 rfl) (nomark _)))))))))))), ?_⟩
   (try dsimp only [cxOf])
   walk_at "rd"
   refine iteNn (by rw [el]) ?_
   walk_at "rd"
   refine zaiy xs ys (fun j zs σ H' => Ch [] H H' ∧ zs = List.replicate j (V.bl true) ∧ ∃ u v, σ = [u, v]) (by rw [sizeLine_eq]; omega) el ⟨Ch.refl _ _, rfl, _, _, rfl⟩ ?_ ?_ ?_
   ·rintro j zs σ H' hj ⟨c, rfl, _⟩
    exact ⟨by simp, SqT.of (c.get g1 (by simp)), SqT.of (c.get g2 (by simp))⟩
   ·rintro j zs σ H' x z T hx hz ⟨c, rfl, u, v, rfl⟩ hT
    obtain ⟨j1, rfl⟩ := List.getElem?_eq_some_iff.mp hx
    obtain ⟨j2, rfl⟩ := List.getElem?_eq_some_iff.mp hz
    have ee : EqvS n (upd H' T (.tup [xs[j], ys[j]])) xs[j] ys[j] := ⟨Eqv.ch (c.trans (Ch.new hT _)) (zacx pr j j1 j2)⟩
    walk_at "rd"
    exact ⟨by rw [← List.replicate_succ'], _, _, rfl⟩
   ·rintro zs σ H' ⟨c, rfl, _⟩
    intro D hD
    refine ⟨D, List.replicate xs.length true, rfl, by rw [zaah, List.map_replicate], ?_⟩
    rw [show (List.replicate xs.length true).all id = true from by simp [List.all_replicate]]
    exact q _ (c.trans (Ch.new hD _))
end
end

section
theorem zak8 {m : Int} (h : 0 ≤ m) : ∃ n : Nat, m = (n : Int) := ⟨m.toNat, by omega⟩
section
variable {P : Program} {w : World} {K : PySem.W.Frag} {mg : Str → Option Value} {base : Heap} {f : Addr} {fd : FuncData} {k : Nat}
theorem av30 : AF (defScope (top 30)) ["_law_wide_here", "_law_power_here", "_law_k"] := ⟨by decide +kernel⟩
theorem gl30 : AG (defScope (top 30)) ["range"] := ⟨by decide +kernel⟩
structure PwE (p : Int) (i : Nat) : Prop where
 e : p = 2 ^ i
def spPow : Sp := fun vs H Q _ => ∃ (n : Nat) (v : Int), vs = [.int v] ∧ v.toNat = n ∧ 0 ≤ v ∧ v ≤ 20 ∧ Q (.int (2 ^ n)) H
theorem scPow : FnScope ["_law_wide_here", "_law_power_here", "_law_k"] ["_law_wide_here"] (defScope (top 30)) := ⟨rfl, rfl, rfl, by decide +kernel, rfl, by decide +kernel, by decide +kernel⟩
theorem zaq0 (F : Fun K "_law_power" "_law_power" (top 30) f fd) (z_range : mg "range" = none) : FnOk P w K mg base CX0 (k + 1) f fd ["_law_wide_here"] spPow := by
 have nd := scPow.nd
 refine F.ok scPow (fun vs H Q E h => by obtain ⟨n, v, rfl, _⟩ := h; rfl) (fun cdv A outer s H vs Q E hr h => ?_)
 obtain ⟨n, v, rfl, ev, v0, v2, q⟩ := h
 refine ⟨_, (Pr.h (zaad (zaa1 (i := 1) nd rfl (av30.l 1 rfl) zaab) (zaad (zacu PassesOwn.never rfl (zac5 (gl30.g 0 rfl) z_range (zaaa (qv av30 0 rfl) zaac zaag)) (zaa2 (i := 2) nd rfl (av30.l 2 rfl)) (zaaf (zaa1 (i := 1) nd rfl (av30.l 1 rfl) (zaau zabo (qv av30 1 rfl) (qv av30 1 rfl))))) (zaaf (zaaj (qv av30 1 rfl)))))), ?_⟩
 (try dsimp only [cxOf])
 walk_at "rd"
 refine zac2 (fun i σ H' => H' = H ∧ ∃ (p : Int) (u : Option V), σ = [some (.int v), some (.int p), u] ∧ PwE p i) ⟨rfl, _, _, rfl, ⟨rfl⟩⟩ ?_ ?_
 ·rintro i σ H' hi ⟨rfl, p, u, rfl, ⟨ep⟩⟩
  have e : PwE (p + p) (i + 1) := ⟨by rw [Int.pow_succ, ep]; omega⟩
  clear ep
  walk_at "rd"
 ·rintro σ H' ⟨rfl, p, u, rfl, ⟨ep⟩⟩
  rw [← ev, ← ep] at q
  clear ep ev
  walk_at "rd"
theorem av32 : AF (defScope (top 32)) ["_law_m"] := ⟨by decide +kernel⟩
def spWB : Sp := fun vs H Q _ => ∃ (m : Int), vs = [.int m] ∧ 0 ≤ m ∧ ∀ w H', 1 ≤ w → w ≤ 16 → Ch [] H H' → Q (.int w) H'
theorem scWB : FnScope ["_law_m"] ["_law_m"] (defScope (top 32)) := ⟨rfl, rfl, rfl, by decide +kernel, rfl, by decide +kernel, by decide +kernel⟩
theorem zar0 (F : Fun K "_law_wide_by" "_law_wide_by" (top 32) f fd) : FnOk P w K mg base CX0 (k + 1) f fd ["_law_m"] spWB := by
 have nd := scWB.nd
 refine F.ok scWB (fun vs H Q E h => by obtain ⟨m, rfl, _⟩ := h; rfl) (fun cdv A outer s H vs Q E hr h => ?_)
 obtain ⟨m, rfl, m0, q⟩ := h
 refine ⟨_, (Pr.h (zaaf (zaaj (zaal zaaz (zaa5 (zaaa zaab (zaaa zaab (zaaa zaab (zaaa zaab (zaaa zaab (zaaa zaab (zaaa zaab (zaaa (zaau zabo zaab (zaau zabv (zaau zack (qv av32 0 rfl) zaab) zaab)) zaac zaa7) zaae) zaae) zaae) zaae) zaae) zaae) zaae)) (zaau zabv (qv av32 0 rfl) zaab) (fun _ _ => rfl))))), ?_⟩
 (try dsimp only [cxOf])
 walk_at "rd"
 rename_i D hD
 obtain ⟨wi, e, w1, w2⟩ : ∃ wi : Int, atI [V.int 1, V.int 2, V.int 3, V.int 8, V.int 9, V.int 15, V.int 16, V.int (1 + m / 8 % 16)] (m % 8) = some (.int wi) ∧ 1 ≤ wi ∧ wi ≤ 16 := by
  have : m % 8 = 0 ∨ m % 8 = 1 ∨ m % 8 = 2 ∨ m % 8 = 3 ∨ m % 8 = 4 ∨ m % 8 = 5 ∨ m % 8 = 6 ∨ m % 8 = 7 := by omega
  rcases this with h | h | h | h | h | h | h | h <;> rw [h] <;> exact ⟨_, rfl, by omega, by omega⟩
 refine Atx.of e ?_
 exact q wi _ w1 w2 (Ch.new hD _)
end
end

section
def chA (j : Nat) : Nat := (Str.ofString "abcdefgh").cps.toList.getD j 0
def chX (i : Nat) : Nat := (Str.ofString "xyz").cps.toList.getD i 0
theorem zaq1 {j : Nat} (h : j < 8) : (Str.ofString "abcdefgh").cps.toList[j]? = some (chA j) := by
 have : j = 0 ∨ j = 1 ∨ j = 2 ∨ j = 3 ∨ j = 4 ∨ j = 5 ∨ j = 6 ∨ j = 7 := by omega
 rcases this with rfl | rfl | rfl | rfl | rfl | rfl | rfl | rfl <;> decide +kernel
theorem zaq2 {i : Nat} (h : i < 3) : (Str.ofString "xyz").cps.toList[i]? = some (chX i) := by
 have : i = 0 ∨ i = 1 ∨ i = 2 := by omega
 rcases this with rfl | rfl | rfl <;> decide +kernel
def chW (i : Nat) : Nat := (Str.ofString "abcdefghijklmnop").cps.toList.getD i 0
theorem lt16 {u : Nat} (h : u < 16) : u = 0 ∨ u = 1 ∨ u = 2 ∨ u = 3 ∨ u = 4 ∨ u = 5 ∨ u = 6 ∨ u = 7 ∨ u = 8 ∨ u = 9 ∨ u = 10 ∨ u = 11 ∨ u = 12 ∨ u = 13 ∨ u = 14 ∨ u = 15 := by omega
theorem zam6 {u : Nat} (h : u < 16) : (Str.ofString "abcdefghijklmnop").cps.toList[u]? = some (chW u) := by
 rcases lt16 h with rfl | rfl | rfl | rfl | rfl | rfl | rfl | rfl | rfl | rfl | rfl | rfl | rfl | rfl | rfl | rfl <;> decide +kernel
theorem zaq3 {u : Nat} (h : u < 16) : hname u = Str.ofString "wide" ++ ({ cps := #[chW u] } : Str) := by
 rcases lt16 h with rfl | rfl | rfl | rfl | rfl | rfl | rfl | rfl | rfl | rfl | rfl | rfl | rfl | rfl | rfl | rfl <;> decide +kernel
def nmOf (j i : Nat) : Str := ({ cps := #[chA j] } : Str) ++ ({ cps := #[chX i] } : Str)
theorem chFree' {H H' : Hp} {b r : Addr} (c : Ch [b] H H') (h : H' r = none) : r = b ∨ H r = none := by
 cases e : H r with
 | none => exact .inr rfl
 | some o => by_cases k : r = b; exact .inl k; rw [c r o e (by simp [k])] at h; cases h
theorem chFree2 {H H' : Hp} {b r : Addr} {o : HO} (c : Ch [b] H H') (hb : H' b = some o) (h : H' r = none) : H r = none := (chFree' c h).resolve_left (fun e => by rw [e, hb] at h; cases h)
section
variable {P : Program} {w : World} {K : PySem.W.Frag} {mg : Str → Option Value} {base : Heap} {f : Addr} {fd : FuncData} {k : Nat}
theorem zacq : Nd "_law_next" := by decide +kernel
theorem av33 : AF (defScope (top 33)) ["_law_script", "_law_at", "_law_wide_here", "_law_place", "_law_m", "_law_name"] := ⟨by decide +kernel⟩
theorem gl33 : AG (defScope (top 33)) ["_law_next"] := ⟨by decide +kernel⟩
theorem scThi : FnScope ["_law_script", "_law_at", "_law_wide_here", "_law_place", "_law_m", "_law_name"] ["_law_script", "_law_at", "_law_wide_here", "_law_place"] (defScope (top 33)) := ⟨rfl, rfl, rfl, by decide +kernel, rfl, by decide +kernel, by decide +kernel⟩
structure ThR (H0 H : Hp) (T : Addr) (t : Th9) : Prop where
 ex : ∃ (pe rl : Addr) (ps : List Addr), H0 rl = none ∧ H T = some (.tup [.ref pe, .ref rl]) ∧ LfAt H pe (lfT t) ∧ H rl = some (.lst (ps.map V.ref)) ∧ Paired (fun r p => RwAt H p r) (rowsT t) ps
def spThi (K : PySem.W.Frag) : Sp := fun vs H Q _ => ∃ (a b : Addr) (ns : List Int) (c wi pl : Int), vs = [.ref a, .ref b, .int wi, .int pl] ∧ Scr K H a ns ∧ H b = some (.lst [.int c]) ∧ 0 ≤ c ∧ c < 2 ^ 50 ∧ 1 ≤ wi ∧ wi ≤ 16 ∧ 0 ≤ pl ∧ pl < 3 ∧ ∀ (kd j : Nat) T H', kd < 3 → j < 8 → Ch [b] H H' → H' b = some (.lst [.int (c + 1)]) → ThR H H' T ⟨kd, nmOf j pl.toNat, wi⟩ → Q (.ref T) H'
theorem zaq4 (F : Fun K "_law_thing" "_law_thing" (top 33) f fd) (D_law_next : DefOk P w K mg base CX0 k "_law_next" ["_law_script", "_law_at"] (spNext K)) : FnOk P w K mg base CX0 (k + 1) f fd ["_law_script", "_law_at", "_law_wide_here", "_law_place"] (spThi K) := by
 have nd := scThi.nd
 refine F.ok scThi (fun vs H Q E h => by obtain ⟨a, b, ns, c, wi, pl, rfl, _⟩ := h; rfl) (fun cdv A outer s H vs Q E hr h => ?_)
 obtain ⟨a, b, ns, c, wi, pl, rfl, hS, hb, c0, c1, w1, w2, p0, p1, q⟩ := h
 refine ⟨_, (Pr.h (zaad (zaa1 (i := 4) nd rfl (av33.l 4 rfl) (zaar D_law_next hr (gl33.g 0 rfl) pass0 (zaaa (qv av33 0 rfl) (zaaa (qv av33 1 rfl) zaac zaag) zaag) zacq)) (zaad (zaa1 (i := 5) nd rfl (av33.l 5 rfl) (zaau zaeh (zaal zafk zaap (zaau zabv (zaau zack (qv av33 4 rfl) zaab) zaab) (fun _ _ => rfl)) (zaal zafk zaap (qv av33 3 rfl) (fun _ _ => rfl)))) (zaad (zaaw (zaaq zabg (zaau zabv (qv av33 4 rfl) zaab) zaab (nomark _)) (zaaf (zaaj (zaa4 (zaaa (zaa4 (zaaa zaap (zaaa (qv av33 5 rfl) zaac zaag) zaae)) (zaaa (zaa5 (zaaa (zaa4 (zaaa zaap (zaaa (qv av33 5 rfl) (zaaa (qv av33 2 rfl) zaac zaag) zaag) zaae)) zaac zaa8)) zaac zacr) zaa8)))) zaak) (zaad (zaaw (zaaq zabg (zaau zabv (qv av33 4 rfl) zaab) zaab (nomark _)) (zaaf (zaaj (zaa4 (zaaa (zaa4 (zaaa zaap (zaaa (qv av33 5 rfl) zaac zaag) zaae)) (zaaa (zaa5 (zaaa (zaa4 (zaaa zaap (zaaa (qv av33 5 rfl) (zaaa (qv av33 2 rfl) (zaaa zaab zaac zaae) zaag) zaag) zaae)) (zaaa (zaa4 (zaaa zaap (zaaa (qv av33 5 rfl) (zaaa (zaa4 (zaaa zaap (zaaa (qv av33 5 rfl) zaac zaag) zaae)) zaac zaa8) zaag) zaae)) zaac zaa8) zaa8)) zaac zacr) zaa8)))) zaak) (zaaf (zaaj (zaa4 (zaaa (zaa4 (zaaa zaap (zaaa (qv av33 5 rfl) (zaaa zaap zaac zaae) zaag) zaae)) (zaaa (zaa5 (zaaa (zaa4 (zaaa zaap (zaaa (qv av33 5 rfl) (zaaa (zaau zaeh zaap (zaal zafk zaap (zaau zad3 (qv av33 2 rfl) zaab) (fun _ _ => rfl))) (zaaa (zaa4 zaac) zaac zaa8) zaa7) zaag) zaae)) zaac zaa8)) zaac zacr) zaa8))))))))), ?_⟩
 (try dsimp only [cxOf])
 refine ⟨_, rfl, _, rfl, a, b, ns, c, rfl, hS, hb, c0, by omega, fun m H1 m0 m1 d1 b1' => ?_⟩
 obtain ⟨j, ej⟩ := zak8 (show 0 ≤ m / 3 % 8 by omega)
 have j8 : j < 8 := by omega
 obtain ⟨i, rfl⟩ := zak8 p0
 have i3 : i < 3 := by omega
 have a1 : atI (Str.ofString "abcdefgh").cps.toList (m / 3 % 8) = some (chA j) := by rw [ej]; exact zadi (zaq1 j8)
 have a2 : atI (Str.ofString "xyz").cps.toList (i : Int) = some (chX i) := zadi (zaq2 i3)
 have q := fun kd T H' hk => q kd j T H' hk j8
 rw [Int.toNat_natCast] at q
 clear hS
 walk_at "rd"
 rw [show (({ cps := #[chA j] } : Str) ++ ({ cps := #[chX i] } : Str)) = nmOf j i from rfl]
 generalize hnm : nmOf j i = nm at q ⊢
 refine ite2 (fun hm => ?_) (fun hm => ?_)
 ·walk_at "rd"
  rename_i b1 h1 b2 h2 b3 h3 b4 h4
  have cc := (((Ch.new (W := []) h1 (.tup [.str "name", .str nm])).trans (Ch.new h2 (.tup [.str "in", .str nm, .int wi]))).trans (Ch.new h3 (.lst [.ref b2]))).trans (Ch.new h4 (.tup [.ref b1, .ref b3]))
  exact q 0 b4 _ (by decide) (d1.trans cc.wk) (cc.get b1' (by simp)) ⟨b1, b3, [b2], chFree2 d1 b1' (chFree ((Ch.new h1 _).trans (Ch.new h2 _)) h3), zaah, zaa6 h4 (zaa6 h3 (zaa6 h2 zaah)), zaa6 h4 zaah, .cons (zaa6 h4 (zaa6 h3 zaah)) .nil⟩
 ·walk_at "rd"
  refine ite2 (fun hm => ?_) (fun hm => ?_)
  ·walk_at "rd"
   rename_i b1 h1 b2 h2 b3 h3 b4 h4 b5 h5 b6 h6
   have cc := (((((Ch.new (W := []) h1 (.tup [.str "name", .str nm])).trans (Ch.new h2 (.tup [.str "keep", .str nm, .int wi, .int 0]))).trans (Ch.new h3 (.tup [.str "name", .str nm]))).trans (Ch.new h4 (.tup [.str "next", .str nm, .ref b3]))).trans (Ch.new h5 (.lst [.ref b2, .ref b4]))).trans (Ch.new h6 (.tup [.ref b1, .ref b5]))
   refine q 1 b6 _ (by decide) (d1.trans cc.wk) (cc.get b1' (by simp)) ⟨b1, b5, [b2, b4], chFree2 d1 b1' (chFree ((((Ch.new h1 _).trans (Ch.new h2 _)).trans (Ch.new h3 _)).trans (Ch.new h4 _)) h5), zaah, zaa6 h6 (zaa6 h5 (zaa6 h4 (zaa6 h3 (zaa6 h2 zaah)))), zaa6 h6 zaah, .cons ⟨zaa6 h6 (zaa6 h5 (zaa6 h4 (zaa6 h3 zaah))), show wi ≤ 10000 by omega⟩ (.cons ⟨b3, zaa6 h6 (zaa6 h5 zaah), zaa6 h6 (zaa6 h5 (zaa6 h4 zaah)), trivial⟩ .nil)⟩
  ·obtain ⟨u, eu⟩ := zak8 (show 0 ≤ wi - 1 by omega)
   have u16 : u < 16 := by omega
   have a3 : atI (Str.ofString "abcdefghijklmnop").cps.toList (wi - 1) = some (chW u) := by rw [eu]; exact zadi (zam6 u16)
   have en : hname (wi - 1).toNat = Str.ofString "wide" ++ ({ cps := #[chW u] } : Str) := by rw [eu, Int.toNat_natCast, zaq3 u16]
   walk_at "rd"
   rename_i b1 h1 b2 h2 b3 h3 b4 h4 b5 h5
   have cc := ((((Ch.new (W := []) h1 (.tup [.str "of", .str nm, .str "big"])).trans (Ch.new h2 (.tup []))).trans (Ch.new h3 (.tup [.str "use", .str nm, .str (Str.ofString "wide" ++ ({ cps := #[chW u] } : Str)), .ref b2]))).trans (Ch.new h4 (.lst [.ref b3]))).trans (Ch.new h5 (.tup [.ref b1, .ref b4]))
   refine q 2 b5 _ (by decide) (d1.trans cc.wk) (cc.get b1' (by simp)) ⟨b1, b4, [b3], chFree2 d1 b1' (chFree (((Ch.new h1 _).trans (Ch.new h2 _)).trans (Ch.new h3 _)) h4), zaah, zaa6 h5 (zaa6 h4 (zaa6 h3 (zaa6 h2 zaah))), zaa6 h5 zaah, .cons ⟨b2, ?_, zaa6 h5 (zaa6 h4 (zaa6 h3 zaah))⟩ .nil⟩
   rw [en]
   exact zaa6 h5 (zaa6 h4 zaah)
end
end

section
theorem zak9 {H : Hp} {a : Addr} {kvs : List (Key × V)} {x : Str} (e : H a = some (.dK kvs)) : DGet H a (.str x) (valV kvs (.inr x)) := DGet.k (k := .inr x) e
local macro_rules | `(tactic| walk_at "user") => `(tactic| first
 | (apply zafr; walk_at "get")
 | (apply zak9; walk_at "get"))
def OLo : Out9 → Prop
 | .pt _ lw _ => 0 ≤ lw
 | .br wo ts => wo ≠ "value" ∧ ts.length ≤ 3
 | _ => True
structure ExR (H : Hp) (pe rl : Addr) (o : Out9) : Prop where
 e : ExAt H pe (exO9 o)
 x : XOk (exO9 o)
 r : ∃ ps : List Addr, H rl = some (.lst (ps.map V.ref)) ∧ Paired (fun r p => RwAt H p r) ((tsO o).flatMap rowsT) ps
 k : OOk o
 n : nO o ≤ 6
 lo : OLo o
theorem zamm {j j' i i' : Nat} (h : j < 8) (h' : j' < 8) (k : i < 3) (k' : i' < 3) (n : i ≠ i') : nmOf j i ≠ nmOf j' i' := by
 have all : ∀ (j j' : Fin 8) (i i' : Fin 3), i ≠ i' → nmOf j i ≠ nmOf j' i' := by decide +kernel
 exact all ⟨j, h⟩ ⟨j', h'⟩ ⟨i, k⟩ ⟨i', k'⟩ (fun z => n (by simpa using z))
theorem zar1 {j i : Nat} (h : j < 8) (k : i < 3) : nmOf j i ≠ "found" ∧ nmOf j i ≠ "cell" := by
 have all : ∀ (j : Fin 8) (i : Fin 3), nmOf j i ≠ "found" ∧ nmOf j i ≠ "cell" := by decide +kernel
 exact all ⟨j, h⟩ ⟨i, k⟩
def FeedD : List (Key × V) := [(.inr "not", .int 0), (.inr "part", .int 0), (.inr "pick", .int 2)]
inductive WC : Str → Nat → Prop
 | n : WC "not" 0
 | p : WC "part" 0
 | k : WC "pick" 2
 | b {wo : Str} : wo ≠ "not" → wo ≠ "part" → wo ≠ "pick" → wo ≠ "value" → Other wo → WC wo 1
def WORDS : List Str := ["not", "and", "or", "xor", "plus", "less", "same", "pick", "part", "join", "value", "value"]
theorem zaoz {m : Int} (h : 0 ≤ m) : ∃ wo : Str, atI (WORDS.map V.str) (m % 12) = some (.str wo) ∧ (wo = "value" ∨ (wo ≠ "value" ∧ ∃ n, WC wo n ∧ (valV FeedD (.inr wo)).getD (.int 1) = .int (n : Int))) := by
 have : m % 12 = 0 ∨ m % 12 = 1 ∨ m % 12 = 2 ∨ m % 12 = 3 ∨ m % 12 = 4 ∨ m % 12 = 5 ∨ m % 12 = 6 ∨ m % 12 = 7 ∨ m % 12 = 8 ∨ m % 12 = 9 ∨ m % 12 = 10 ∨ m % 12 = 11 := by omega
 have bb : ∀ wo : Str, wo ≠ "not" → wo ≠ "part" → wo ≠ "pick" → wo ≠ "value" → wo ≠ "name" → wo ≠ "of" → (wo ≠ "value" ∧ ∃ n, WC wo n ∧ (valV FeedD (.inr wo)).getD (.int 1) = .int (n : Int)) := fun wo h1 h2 h3 h4 h5 h6 => by
  refine ⟨h4, 1, .b h1 h2 h3 h4 ⟨h5, h6, h4, h2⟩, ?_⟩
  rw [show valV FeedD (.inr wo) = none from by
   unfold FeedD
   rw [zabl (fun e => h1 (Sum.inr.inj e).symm), zabl (fun e => h2 (Sum.inr.inj e).symm), zabl (fun e => h3 (Sum.inr.inj e).symm)]
   rfl]
  rfl
 rcases this with e | e | e | e | e | e | e | e | e | e | e | e <;> rw [e]
 ·exact ⟨"not", rfl, .inr ⟨by decide +kernel, 0, .n, by decide +kernel⟩⟩
 ·exact ⟨"and", rfl, .inr (bb _ (by decide +kernel) (by decide +kernel) (by decide +kernel) (by decide +kernel) (by decide +kernel) (by decide +kernel))⟩
 ·exact ⟨"or", rfl, .inr (bb _ (by decide +kernel) (by decide +kernel) (by decide +kernel) (by decide +kernel) (by decide +kernel) (by decide +kernel))⟩
 ·exact ⟨"xor", rfl, .inr (bb _ (by decide +kernel) (by decide +kernel) (by decide +kernel) (by decide +kernel) (by decide +kernel) (by decide +kernel))⟩
 ·exact ⟨"plus", rfl, .inr (bb _ (by decide +kernel) (by decide +kernel) (by decide +kernel) (by decide +kernel) (by decide +kernel) (by decide +kernel))⟩
 ·exact ⟨"less", rfl, .inr (bb _ (by decide +kernel) (by decide +kernel) (by decide +kernel) (by decide +kernel) (by decide +kernel) (by decide +kernel))⟩
 ·exact ⟨"same", rfl, .inr (bb _ (by decide +kernel) (by decide +kernel) (by decide +kernel) (by decide +kernel) (by decide +kernel) (by decide +kernel))⟩
 ·exact ⟨"pick", rfl, .inr ⟨by decide +kernel, 2, .k, by decide +kernel⟩⟩
 ·exact ⟨"part", rfl, .inr ⟨by decide +kernel, 0, .p, by decide +kernel⟩⟩
 ·exact ⟨"join", rfl, .inr (bb _ (by decide +kernel) (by decide +kernel) (by decide +kernel) (by decide +kernel) (by decide +kernel) (by decide +kernel))⟩
 ·exact ⟨"value", rfl, .inl rfl⟩
 ·exact ⟨"value", rfl, .inl rfl⟩
structure WsR (H : Hp) (wl : Addr) (n : Nat) : Prop where
 ex : ∃ ws : List Int, H wl = some (.lst (ws.map V.int)) ∧ ws.length = n ∧ ∀ x ∈ ws, 1 ≤ x ∧ x ≤ 16
structure Tg (H : Hp) (pl rl : Addr) (ts : List Th9) (n : Nat) : Prop where
 l : ts.length = n
 t : Ths ts
 m : ∀ (i : Nat) (t : Th9), ts[i]? = some t → ∃ j, j < 8 ∧ t.nm = nmOf j i
 p : ∃ qs : List Addr, H pl = some (.lst (qs.map V.ref)) ∧ Paired (fun l q => LfAt H q l) (ts.map lfT) qs
 r : ∃ ps : List Addr, H rl = some (.lst (ps.map V.ref)) ∧ Paired (fun r p => RwAt H p r) (ts.flatMap rowsT) ps
theorem zajb (t : Th9) : (rowsT t).length ≤ 2 := by unfold rowsT; split; simp; split <;> simp
theorem zag4 : ∀ ts : List Th9, (ts.flatMap rowsT).length ≤ 2 * ts.length
 | [] => by simp
 | t :: ts => by
  rw [List.flatMap_cons, List.length_append, List.length_cons]
  have := zag4 ts
  have := zajb t
  omega
theorem Tg.nf {H : Hp} {pl rl : Addr} {ts : List Th9} {n : Nat} (h : Tg H pl rl ts n) (hn : n ≤ 3) : ∀ t ∈ ts, t.nm ≠ "found" ∧ t.nm ≠ "cell" := fun t ht => by
 obtain ⟨i, hi⟩ := List.getElem?_of_mem ht
 obtain ⟨j, hj, e⟩ := h.m i t hi
 rw [e]
 exact zar1 hj (by have := (List.getElem?_eq_some_iff.mp hi).1; have := h.l; omega)
theorem zac6 {α β : Type} {R : α → β → Prop} : ∀ {xs xs' : List α} {ys ys' : List β}, Paired R xs ys → Paired R xs' ys' → Paired R (xs ++ xs') (ys ++ ys')
 | _, _, _, _, .nil, k => k
 | _, _, _, _, .cons a t, k => .cons a (zac6 t k)
theorem WC.pick {wo : Str} {n : Nat} (h : WC wo n) (e : wo = "pick") : n = 2 := by
 cases h with
 | n => exact absurd e (by decide +kernel)
 | p => exact absurd e (by decide +kernel)
 | k => rfl
 | b _ _ h => exact absurd e h
theorem WC.join {wo : Str} {n : Nat} (h : WC wo n) (e : wo = "join") : n = 1 := by
 cases h with
 | n => exact absurd e (by decide +kernel)
 | p => exact absurd e (by decide +kernel)
 | k => exact absurd e (by decide +kernel)
 | b => rfl
theorem WC.part {wo : Str} {n : Nat} (h : WC wo n) (e : wo = "part") : n = 0 := by
 cases h with
 | n => rfl
 | p => rfl
 | k => exact absurd e (by decide +kernel)
 | b _ h => exact absurd e h
theorem WC.ar {wo : Str} {n : Nat} (h : WC wo n) (e : wo ≠ "part") : Other wo ∧ Arity wo (n + 1) := by
 cases h with
 | n => exact ⟨⟨by decide +kernel, by decide +kernel, by decide +kernel, by decide +kernel⟩, .inl ⟨rfl, rfl⟩⟩
 | p => exact absurd rfl e
 | k => exact ⟨⟨by decide +kernel, by decide +kernel, by decide +kernel, by decide +kernel⟩, .inr (.inl ⟨rfl, rfl⟩)⟩
 | b h1 h2 h3 h4 h5 => exact ⟨h5, .inr (.inr ⟨h1, h3, rfl⟩)⟩
structure Pre (H : Hp) (rl : Addr) (wo : Str) (vs : List V) (o : Out9) : Prop where
 e : ∀ H' T, Tu H H' → H' T = some (.tup (.str wo :: vs)) → ExAt H' T (exO9 o)
 x : XOk (exO9 o)
 r : ∃ ps : List Addr, H rl = some (.lst (ps.map V.ref)) ∧ Paired (fun r p => RwAt H p r) ((tsO o).flatMap rowsT) ps
 k : OOk o
 n : nO o ≤ 6
 lo : OLo o
theorem zaq5 (t : Th9) : VOk (lfT t) := by unfold lfT; split <;> trivial
theorem Tg.pre {H : Hp} {pl rl : Addr} {ts : List Th9} {wo : Str} {n : Nat} (h : Tg H pl rl ts (n + 1)) (hn : n ≤ 2) (wc : WC wo n) (np : wo ≠ "part") : ∃ vs, H pl = some (.lst vs) ∧ vs.length ≤ 3 ∧ Pre H rl wo vs (.br wo ts) := by
 obtain ⟨qs, e, p⟩ := h.p
 have lq : qs.length = ts.length := by rw [← p.length, List.length_map]
 refine ⟨_, e, by rw [List.length_map, lq, h.l]; omega, fun H' T k q => ⟨qs, q, zaax (fun _ _ => LfAt.tu k) p, (wc.ar np).1, by rw [List.length_map, h.l]; exact (wc.ar np).2⟩, fun l hl => ?_, h.r, ⟨h.t, h.nf (by omega)⟩, ?_, (wc.ar np).1.2.2.1, by have := h.l; omega⟩
 ·obtain ⟨t, _, rfl⟩ := List.mem_map.mp hl
  exact zaq5 t
 ·have := zag4 ts
  show (ts.flatMap rowsT).length ≤ 6
  have := h.l
  omega
theorem Tg.step {H H' : Hp} {pl rl : Addr} {ts : List Th9} {t : Th9} {n j : Nat} {pe : Addr} {ps : List Addr} (h : Tg H pl rl ts n) (hn : n < 3) (hj : j < 8) (e : t.nm = nmOf j n) (ok : ThOk t) (k : Tu H H')
  (lf : LfAt H' pe (lfT t)) (rr : Paired (fun r p => RwAt H' p r) (rowsT t) ps) (p1 : ∀ xs, H pl = some (.lst xs) → H' pl = some (.lst (xs ++ [.ref pe]))) (p2 : ∀ xs, H rl = some (.lst xs) → H' rl = some (.lst (xs ++ ps.map V.ref))) : Tg H' pl rl (ts ++ [t]) (n + 1) := by
 obtain ⟨qs, e1, q1⟩ := h.p
 obtain ⟨us, e2, q2⟩ := h.r
 refine ⟨by rw [List.length_append, h.l]; rfl, .snoc h.t ok (fun u hu => ?_), fun i u hi => ?_, ⟨qs ++ [pe], by rw [p1 _ e1, List.map_append]; rfl, ?_⟩, ⟨us ++ ps, by rw [p2 _ e2, List.map_append], ?_⟩⟩
 ·obtain ⟨i, hi⟩ := List.getElem?_of_mem hu
  obtain ⟨j', hj', e'⟩ := h.m i u hi
  have := (List.getElem?_eq_some_iff.mp hi).1
  have := h.l
  rw [e, e']
  exact zamm hj' hj (by omega) hn (by omega)
 ·by_cases hi' : i < ts.length
  ·rw [List.getElem?_append_left hi'] at hi
   exact h.m i u hi
  ·have : i < (ts ++ [t]).length := (List.getElem?_eq_some_iff.mp hi).1
   rw [List.length_append, List.length_singleton] at this
   have hi2 : i = ts.length := by omega
   rw [hi2, List.getElem?_append_right (Nat.le_refl _), Nat.sub_self] at hi
   cases Option.some.inj hi
   exact ⟨j, hj, by rw [hi2, h.l]; exact e⟩
 ·rw [List.map_append]
  exact zacf (R := fun l q => LfAt H' q l) lf (zaax (fun _ _ => LfAt.tu k) q1)
 ·rw [List.flatMap_append, show [t].flatMap rowsT = rowsT t from by simp]
  exact zac6 (zaax (fun _ _ => RwAt.tu k) q2) rr
section
variable {P : Program} {w : World} {K : PySem.W.Frag} {mg : Str → Option Value} {base : Heap} {f : Addr} {fd : FuncData} {k : Nat}
theorem zadp : Nd "_law_wide_by" := by decide +kernel
theorem zadg : Nd "_law_power" := by decide +kernel
theorem zam7 : bootBuiltins "max" = some (.builtin "max") := by decide +kernel
theorem zam8 : ("max" : Str) ≠ "__name__" := by decide +kernel
theorem zam9 : Nd "max" := by decide +kernel
theorem zala : bootBuiltins "min" = some (.builtin "min") := by decide +kernel
theorem zalb : ("min" : Str) ≠ "__name__" := by decide +kernel
theorem zalc : Nd "min" := by decide +kernel
theorem zag5 : Nd "_law_thing" := by decide +kernel
theorem av34 : AF (defScope (top 34)) ["_law_script", "_law_at", "_law_m", "_law_word", "_law_wide_here", "_law_n", "_law_broad", "_law_power_here", "_law_wides", "_law_k", "_law_p", "_law_parts", "_law_rows", "_law_place", "_law_expr", "_law_more", "_law_low"] := ⟨by decide +kernel⟩
theorem gl34 : AG (defScope (top 34)) ["_law_next", "_law_wide_by", "_law_power", "range", "max", "min", "enumerate", "_law_thing", "tuple"] := ⟨by decide +kernel⟩
def spEx (K : PySem.W.Frag) : Sp := fun vs H Q _ => ∃ (a b : Addr) (ns : List Int) (c : Int), vs = [.ref a, .ref b] ∧ Scr K H a ns ∧ H b = some (.lst [.int c]) ∧ 0 ≤ c ∧ c < 2 ^ 40 ∧ ∀ o T pe rl c' H', Ch [b] H H' → H' b = some (.lst [.int c']) → c ≤ c' → c' ≤ c + 10 → H' T = some (.tup [.ref pe, .ref rl]) → ExR H' pe rl o → Q (.ref T) H'
theorem scEx : FnScope ["_law_script", "_law_at", "_law_m", "_law_word", "_law_wide_here", "_law_n", "_law_broad", "_law_power_here", "_law_wides", "_law_k", "_law_p", "_law_parts", "_law_rows", "_law_place", "_law_expr", "_law_more", "_law_low"] ["_law_script", "_law_at"] (defScope (top 34)) := ⟨rfl, rfl, rfl, by decide +kernel, rfl, by decide +kernel, by decide +kernel⟩
theorem zar2 (F : Fun K "_law_expr_by" "_law_expr_by" (top 34) f fd) (D_law_next : DefOk P w K mg base CX0 k "_law_next" ["_law_script", "_law_at"] (spNext K)) (D_law_power : DefOk P w K mg base CX0 k "_law_power" ["_law_wide_here"] spPow) (D_law_wide_by : DefOk P w K mg base CX0 k "_law_wide_by" ["_law_m"] spWB) (D_law_thing : DefOk P w K mg base CX0 k "_law_thing" ["_law_script", "_law_at", "_law_wide_here", "_law_place"] (spThi K)) (z_range : mg "range" = none) (z_max : mg "max" = none) (z_min : mg "min" = none) (z_enumerate : mg "enumerate" = none) (z_tuple : mg "tuple" = none) : FnOk P w K mg base CX0 (k + 1) f fd ["_law_script", "_law_at"] (spEx K) := by
 have nd := scEx.nd
 refine F.ok scEx (fun vs H Q E h => by obtain ⟨a, b, ns, c, rfl, _⟩ := h; rfl) (fun cdv A outer s H vs Q E hr h => ?_)
 obtain ⟨a, b, ns, c, rfl, hS, hb, c0, c1, q⟩ := h
 have hu := zac8 hr
 refine ⟨_, (Pr.h (zaad (zaa1 (i := 2) nd rfl (av34.l 2 rfl) (zaar D_law_next hr (gl34.g 0 rfl) pass0 (zaaa (qv av34 0 rfl) (zaaa (qv av34 1 rfl) zaac zaag) zaag) zacq)) (zabf (zaa1 (i := 3) nd rfl (av34.l 3 rfl) (zaal zaaz (zaa5 (zaaa zaap (zaaa zaap (zaaa zaap (zaaa zaap (zaaa zaap (zaaa zaap (zaaa zaap (zaaa zaap (zaaa zaap (zaaa zaap (zaaa zaap (zaaa zaap zaac zaae) zaae) zaae) zaae) zaae) zaae) zaae) zaae) zaae) zaae) zaae) zaae)) (zaau zabv (qv av34 2 rfl) zaab) (fun _ _ => rfl))) (zaad (zaa1 (i := 4) nd rfl (av34.l 4 rfl) (zaar D_law_wide_by hr (gl34.g 1 rfl) pass0 (zaaa (zaau zack (qv av34 2 rfl) zaab) zaac zaa7) zadp)) (zabf (zaa1 (i := 5) nd rfl (av34.l 5 rfl) (zaar D_law_next hr (gl34.g 0 rfl) pass0 (zaaa (qv av34 0 rfl) (zaaa (qv av34 1 rfl) zaac zaag) zaag) zacq)) (zaad (zaaw (zaaq zabg (qv av34 3 rfl) zaap (nomark _)) (zabf (zaa1 (i := 6) nd rfl (av34.l 6 rfl) (zaal zaaz (zaa5 (zaaa (qv av34 4 rfl) (zaaa (qv av34 4 rfl) (zaaa zaab (zaaa zaab (zaaa zaab zaac zaae) zaae) zaae) zaag) zaag)) (zaau zabv (qv av34 5 rfl) zaab) (fun _ _ => rfl))) (zaad (zaa1 (i := 7) nd rfl (av34.l 7 rfl) (zaar D_law_power hr (gl34.g 2 rfl) pass0 (zaaa (qv av34 6 rfl) zaac zaag) zadg)) (zaaf (zaaj (zaa4 (zaaa (zaa4 (zaaa zaap (zaaa (zaal zaaz (zaa5 (zaaa zaab (zaaa (zaau zad3 (qv av34 7 rfl) zaab) (zaaa (qv av34 7 rfl) (zaaa (zaau zack (qv av34 7 rfl) zaab) (zaaa (zaau zabo (qv av34 7 rfl) (qv av34 5 rfl)) zaac zaa7) zaa7) zaag) zaa7) zaae)) (zaau zabv (zaau zack (qv av34 5 rfl) zaab) zaab) (fun _ _ => rfl)) (zaaa (qv av34 6 rfl) zaac zaag) zaas) zaae)) (zaaa (zaa5 zaac) zaac zacr) zaa8)))))) zaak) (zabf (zaa1 (i := 8) nd rfl (av34.l 8 rfl) (zaa5 (zaaa (qv av34 4 rfl) zaac zaag))) (zaad (zacu PassesOwn.never rfl (zac5 (gl34.g 3 rfl) z_range (zaaa (zacp hu (zal4 (zafn zaap zaab (zafn zaap zaab (zafn zaap zaab zal3))) rfl rfl (by intro z; cases z) (by decide)) (qv av34 3 rfl) zaab ⟨rfl, rfl, rfl, rfl⟩) zaac zab0)) (zaa2 (i := 9) nd rfl (av34.l 9 rfl)) (zaad (zaa1 (i := 10) nd rfl (av34.l 10 rfl) (zaar D_law_next hr (gl34.g 0 rfl) pass0 (zaaa (qv av34 0 rfl) (zaaa (qv av34 1 rfl) zaac zaag) zaag) zacq)) (zaaf (zada (zaf9 PySem.F.plainAttrs_list PySem.F.slot_list_append PySem.F.type_list_append zad5 (qv av34 8 rfl) (zaaa (zaal zaaz (zaa5 (zaaa (qv av34 4 rfl) (zaaa (qv av34 4 rfl) (zaaa (zaar D_law_wide_by hr (gl34.g 1 rfl) pass0 (zaaa (zaau zack (qv av34 10 rfl) zaab) zaac zaa7) zadp) (zaaa (zaai (zahf rfl) (gl34.g 4 rfl) z_max zam7 (zaaa zaab (zaaa (zaau zad3 zaab (qv av34 4 rfl)) zaac zaa7) zaae) zam8 zam9) zaac zab0) zab0) zaag) zaag)) (zaau zabv (qv av34 10 rfl) zaab) (fun _ _ => rfl)) zaac zaas)))))) (zabf (zaaw (zaaq zabg (qv av34 3 rfl) zaap (nomark _)) (zaaf (zaa1 (i := 8) nd rfl (av34.l 8 rfl) (zaa5 (zaaa (zaal zaaz (zaa5 (zaaa zaab (zaaa zaab (zaaa zaab (zaaa zaab zaac zaae) zaae) zaae) zaae)) (zaau zabv (qv av34 5 rfl) zaab) (fun _ _ => rfl)) (zaaa (qv av34 4 rfl) (zaaa (zaal zaaz (qv av34 8 rfl) zaab (fun _ _ => rfl)) zaac zaas) zaag) zaas)))) zaak) (zabf (zaaw (zab5 (zaia (zaaq zabg (qv av34 3 rfl) zaap (nomark _)) (zagp (zaaq zabg (zaau zabv (qv av34 5 rfl) zaab) zaab (nomark _))))) (zaaf (zagr (zaau zad3 zaab (zaai (zaj4 rfl) (gl34.g 5 rfl) z_min zala (zaaa zaab (zaaa (qv av34 4 rfl) zaac zaag) zaae) zalb zalc)) (zakk (qv av34 8 rfl) zaab zait))) zaak) (zaad (zaa1 (i := 11) nd rfl (av34.l 11 rfl) (zaa5 zaac)) (zabf (zaa1 (i := 12) nd rfl (av34.l 12 rfl) (zaa5 zaac)) (zaad (zacu PassesOwn.never rfl (zai0 .list (gl34.g 6 rfl) z_enumerate (zaaa (qv av34 8 rfl) zaac zaag)) (zagq rfl (zabb (zaa2 (i := 13) nd rfl (av34.l 13 rfl)) (zabb (zaa2 (i := 6) nd rfl (av34.l 6 rfl)) zacl))) (zaad (zagr (zaar D_law_thing hr (gl34.g 7 rfl) pass0 (zaaa (qv av34 0 rfl) (zaaa (qv av34 1 rfl) (zaaa (qv av34 6 rfl) (zaaa (qv av34 13 rfl) zaac zaag) zaag) zaag) zaag) zag5) (zagq rfl (zabb (zaa2 (i := 14) nd rfl (av34.l 14 rfl)) (zabb (zaa2 (i := 15) nd rfl (av34.l 15 rfl)) zacl)))) (zaad (zada (zaf9 PySem.F.plainAttrs_list PySem.F.slot_list_append PySem.F.type_list_append zad5 (qv av34 11 rfl) (zaaa (qv av34 14 rfl) zaac zaag))) (zaaf (zada (zaf9 PySem.F.plainAttrs_list PySem.F.slot_list_extend PySem.F.type_list_extend zakb (qv av34 12 rfl) (zaaa (qv av34 15 rfl) zaac zaag))))))) (zabf (zaaw (zaaq zabg (qv av34 3 rfl) zaap (nomark _)) (zabf (zaa1 (i := 16) nd rfl (av34.l 16 rfl) (zaal zaaz (zaa5 (zaaa zaab (zaaa (zaau zad3 (qv av34 4 rfl) zaab) (zaaa (qv av34 4 rfl) (zaaa (zaau zabv (qv av34 5 rfl) zaab) zaac zaa7) zaag) zaa7) zaae)) (zaau zabv (zaau zack (qv av34 5 rfl) zaab) zaab) (fun _ _ => rfl))) (zaaf (zaa1 (i := 11) nd rfl (av34.l 11 rfl) (zaau zad1 (qv av34 11 rfl) (zaa5 (zaaa (qv av34 16 rfl) (zaaa (zaai (zahf rfl) (gl34.g 4 rfl) z_max zam7 (zaaa zaab (zaaa (zaal zaaz (zaa5 (zaaa (zaau zad3 (qv av34 4 rfl) (qv av34 16 rfl)) (zaaa (zaau zabo (zaau zad3 (qv av34 4 rfl) (qv av34 16 rfl)) zaab) (zaaa zaab (zaaa zaab zaac zaae) zaae) zaa7) zaa7)) (zaau zabv (zaau zack (qv av34 5 rfl) zaab) zaab) (fun _ _ => rfl)) zaac zaas) zaae) zam8 zam9) zaac zab0) zaag)))))) zaak) (zaaf (zaaj (zaa4 (zaaa (zabj zac7 (gl34.g 8 rfl) z_tuple zabs (zaaa (zaau zad1 (zaa5 (zaaa (qv av34 3 rfl) zaac zaag)) (qv av34 11 rfl)) zaac zaa7) zabt zabu) (zaaa (qv av34 12 rfl) zaac zaag) zab0)))))))))))))))))), ?_⟩
 (try dsimp only [cxOf])
 refine ⟨_, rfl, _, rfl, a, b, ns, c, rfl, hS, hb, c0, by omega, fun m H1 m0 m1 d1 b1 => ?_⟩
 have hS1 := hS.ch hb d1
 obtain ⟨wo, ew, cls⟩ := zaoz m0
 have bs : Box (Scr K H1 a ns) := ⟨hS1⟩
 clear hS hS1
 walk_at "rd"
 refine zab7 (fun σ H' => σ = [some (.ref a), some (.ref b), some (.int m), some (.str wo), none, none, none, none, none, none, none, none, none, none, none, none, none] ∧ Ch [] H1 H') ?_ ?_
 ·walk_at "rd"
  rename_i D hD
  refine Atx.of ew ?_
  walk_at "rd"
 rintro σ H2 ⟨rfl, c2⟩
 have bs2 : Box (Scr K H2 a ns) := ⟨bs.h.same c2⟩
 have b2 := c2.get b1 (by simp)
 clear ew bs
 have d2 : Ch [b] H H2 := d1.trans c2.wk
 clear d1 b1 c2
 walk_at "rd"
 rename_i wi H2' w1 w2 c2'
 have bs2' := bs2.h.same c2'
 have b2' := c2'.get b2 (by simp)
 have d2' : Ch [b] H H2' := d2.trans c2'.wk
 refine zab7 (fun σ H' => Box (∃ n, σ = [some (.ref a), some (.ref b), some (.int m), some (.str wo), some (.int wi), some (.int n), none, none, none, none, none, none, none, none, none, none, none] ∧ Ch [b] H H' ∧ Scr K H' a ns ∧ H' b = some (.lst [.int (c + 1 + 1)]) ∧ 0 ≤ n)) ?_ ?_
 ·refine ⟨_, rfl, _, rfl, a, b, ns, c + 1, rfl, bs2', b2', by omega, by omega, fun n H4 n0 n1 d4 b4 => ?_⟩
  exact ⟨n, rfl, d2'.trans d4, bs2'.ch b2' d4, b4, n0⟩
 rintro σ H3 ⟨n, rfl, d3, hS3, b3, n0⟩
 have bs3 : Box (Scr K H3 a ns) := ⟨hS3⟩
 clear hS3 bs2 b2 d2 bs2' b2' d2' c2'
 rcases cls with rfl | ⟨nv, nn, wc, ev⟩
 ·walk_at "rd"
  refine zab7 (fun σ H' => Box (∃ bd, σ = [some (.ref a), some (.ref b), some (.int m), some (.str "value"), some (.int wi), some (.int n), some (.int bd), none, none, none, none, none, none, none, none, none, none] ∧ Ch [b] H H' ∧ H' b = some (.lst [.int (c + 1 + 1)]) ∧ 0 ≤ bd ∧ bd ≤ 17)) ?_ ?_
  ·walk_at "rd"
   rename_i D hD
   obtain ⟨bd, e, p0, p1⟩ : ∃ bd : Int, atI [V.int wi, V.int wi, V.int 0, V.int 17, V.int 16] (n % 5) = some (.int bd) ∧ 0 ≤ bd ∧ bd ≤ 17 := by
    have : n % 5 = 0 ∨ n % 5 = 1 ∨ n % 5 = 2 ∨ n % 5 = 3 ∨ n % 5 = 4 := by omega
    rcases this with h | h | h | h | h <;> rw [h] <;> exact ⟨_, rfl, by omega, by omega⟩
   refine Atx.of e ?_
   exact ⟨bd, rfl, d3.trans (Ch.new hD _).wk, zaa6 hD b3, p0, p1⟩
  rintro σ H4 ⟨bd, rfl, d4, b4, p0, p1⟩
  refine ⟨_, rfl, bd.toNat, bd, rfl, rfl, p0, by omega, ?_⟩
  generalize (2 : Int) ^ bd.toNat = pw
  walk_at "rd"
  rename_i D hD
  obtain ⟨v, e⟩ : ∃ v : Int, atI [V.int 0, V.int (pw - 1), V.int pw, V.int (pw / 2), V.int (pw + n)] (n / 5 % 5) = some (.int v) := by
   have : n / 5 % 5 = 0 ∨ n / 5 % 5 = 1 ∨ n / 5 % 5 = 2 ∨ n / 5 % 5 = 3 ∨ n / 5 % 5 = 4 := by omega
   rcases this with h | h | h | h | h <;> rw [h] <;> exact ⟨_, rfl⟩
  refine Atx.of e ?_
  walk_at "rd"
  rename_i b1 h1 b2 h2 b3' h3
  have cc := (((Ch.new (W := []) hD (.lst [.int 0, .int (pw - 1), .int pw, .int (pw / 2), .int (pw + n)])).trans (Ch.new h1 (.tup [.str "value", .int v, .int bd]))).trans (Ch.new h2 (.lst []))).trans (Ch.new h3 (.tup [.ref b1, .ref b2]))
  exact q (.val v bd) b3' b1 b2 (c + 1 + 1) _ (d4.trans cc.wk) (cc.get b4 (by simp)) (by omega) (by omega) zaah ⟨zaa6 h3 (zaa6 h2 zaah), show bd ≤ 10000 by omega, ⟨[], zaa6 h3 zaah, .nil⟩, ⟨.nil, fun t ht => by simp [tsO] at ht⟩, by simp [nO, tsO], trivial⟩
 ·walk_at "rd"
  refine ite2 (fun h => absurd (by simpa using h) nv) (fun _ => ?_)
  walk_at "rd"
  refine zab7 (fun σ H' => Box (∃ wl, σ = [some (.ref a), some (.ref b), some (.int m), some (.str wo), some (.int wi), some (.int n), none, none, some (.ref wl), none, none, none, none, none, none, none, none] ∧ Ch [b] H H' ∧ H' b = some (.lst [.int (c + 1 + 1)]) ∧ H' wl = some (.lst [.int wi]) ∧ H wl = none ∧ wl ≠ b ∧ Scr K H' a ns)) ?_ ?_
  ·walk_at "rd"
   rename_i D hD
   have cc := Ch.new (W := []) hD (.lst [.int wi])
   have nb : D ≠ b := fun e => by subst e; rw [b3] at hD; cases hD
   exact ⟨D, rfl, d3.trans cc.wk, zaa6 hD b3, zaah, (chFree' d3 hD).resolve_left (fun e => nb e), nb, bs3.h.same cc⟩
  rintro σ H4 ⟨wl, rfl, d4, b4, e4, n4, nb, hS4⟩
  have bs4 : Box (Scr K H4 a ns) := ⟨hS4⟩
  clear hS4 bs3 b3 d3
  have n2 : nn ≤ 2 := by cases wc <;> decide
  walk_at "rd"
  refine ⟨(rfl : _ = List.map (fun kv : Key × V => (kV kv.1, kv.2)) FeedD), by decide, ?_⟩
  walk_at "rd"
  rename_i D hD
  have em : mergeK [] FeedD = FeedD := by decide +kernel
  refine ⟨congrArg (fun v => [v]) (show (valV (mergeK [] FeedD) (Sum.inr wo)).getD (V.int 1) = V.int (nn : Int) by rw [em]; exact ev), by omega, by omega, ?_⟩
  rw [Int.toNat_natCast, em]
  have d5 : Ch [] H4 (upd (upd H4 D (.dK [])) D (.dK FeedD)) := Ch.own hD (Ch.new hD _)
  have cc : Box (Ch [b] H (upd (upd H4 D (.dK [])) D (.dK FeedD)) ∧ (upd (upd H4 D (.dK [])) D (.dK FeedD)) b = some (.lst [.int (c + 1 + 1)]) ∧ (upd (upd H4 D (.dK [])) D (.dK FeedD)) wl = some (.lst [.int wi]) ∧ Scr K (upd (upd H4 D (.dK [])) D (.dK FeedD)) a ns) := ⟨d4.trans d5.wk, d5.get b4 (by simp), d5.get e4 (by simp), bs4.h.same d5⟩
  clear d5 d4 b4 e4 bs4 ev
  generalize upd (upd H4 D (.dK [])) D (.dK FeedD) = H5 at cc ⊢
  obtain ⟨d5, b5, e5, S5⟩ := cc
  refine zac2 (fun i σ H' => Box (∃ v9 v10 c', σ = [some (.ref a), some (.ref b), some (.int m), some (.str wo), some (.int wi), some (.int n), none, none, some (.ref wl), v9, v10, none, none, none, none, none, none] ∧ Ch [b] H H' ∧ H' b = some (.lst [.int c']) ∧ c ≤ c' ∧ c' ≤ c + 2 + i ∧ WsR H' wl (i + 1) ∧ Scr K H' a ns)) ⟨none, none, c + 1 + 1, rfl, d5, b5, by omega, by omega, ⟨[wi], e5, rfl, fun x hx => by rw [List.mem_singleton.mp hx]; exact ⟨w1, w2⟩⟩, S5⟩ ?_ ?_
  ·rintro i σ H6 hi ⟨v9, v10, c', rfl, d6, b6, k0, k1, ⟨ws, ew, el, ea⟩, S6⟩
   clear d5 b5 e5 S5
   have bs6 : Box (Scr K H6 a ns) := ⟨S6⟩
   clear S6
   refine ⟨_, rfl, _, rfl, a, b, ns, c', rfl, bs6.h, b6, by omega, by omega, fun p H7 p0 p1 d7 b7 => ?_⟩
   have e7 := d7.get ew (by simpa using nb)
   have S7 : Box (Scr K H7 a ns) := ⟨bs6.h.ch b6 d7⟩
   have d7 := d6.trans d7
   clear bs6 b6 d6 ew
   walk_at "rd"
   rename_i wb H8 wb1 wb2 c8 L hL
   obtain ⟨x, ex, x1, x2⟩ : ∃ x : Int, atI [V.int wi, V.int wi, V.int wb, V.int (if 16 - wi > 1 then 16 - wi else 1)] (p % 4) = some (.int x) ∧ 1 ≤ x ∧ x ≤ 16 := by
    have : p % 4 = 0 ∨ p % 4 = 1 ∨ p % 4 = 2 ∨ p % 4 = 3 := by omega
    rcases this with h | h | h | h <;> rw [h] <;> refine ⟨_, rfl, ?_, ?_⟩ <;> first | omega | (split <;> omega)
   refine Atx.of ex ?_
   have c9 : Ch [] H7 (upd H8 L (.lst [V.int wi, V.int wi, V.int wb, V.int (if 16 - wi > 1 then 16 - wi else 1)])) := c8.trans (Ch.new hL _)
   have e9 := c9.get e7 (by simp)
   refine ⟨wl, _, .int x, rfl, rfl, e9, by rw [sizeLine_eq, List.length_map, el]; omega, ?_⟩
   refine ⟨_, _, c' + 1, rfl, Ch.own n4 (d7.trans c9.wk), zabc nb.symm (c9.get b7 (by simp)), by omega, by omega, ⟨ws ++ [x], by rw [zaah, List.map_append]; rfl, by rw [List.length_append, el]; rfl, fun y hy => ?_⟩, (S7.h.same c9).ch e9 Ch.put⟩
   rcases List.mem_append.mp hy with hy | hy
   ·exact ea y hy
   ·rw [List.mem_singleton.mp hy]; exact ⟨x1, x2⟩
  ·rintro σ H6 ⟨v9, v10, c', rfl, d6, b6, k0, k1, W6, S6⟩
   clear d5 b5 e5 S5
   have bs6 : Box (Scr K H6 a ns) := ⟨S6⟩
   clear S6
   refine zab7 (fun σ H' => Box (∃ wl, σ = [some (.ref a), some (.ref b), some (.int m), some (.str wo), some (.int wi), some (.int n), none, none, some (.ref wl), v9, v10, none, none, none, none, none, none] ∧ H wl = none ∧ wl ≠ b ∧ Ch [b] H H' ∧ H' b = some (.lst [.int c']) ∧ WsR H' wl (nn + 1) ∧ Scr K H' a ns)) ?_ ?_
   ·walk_at "rd"
    refine ite2 (fun h => ?_) (fun h => ?_)
    ·have n3 : nn = 2 := wc.pick (by simpa using h)
     obtain ⟨ws, ew, el, ea⟩ := W6.ex
     obtain ⟨y0, y1, y2, rfl⟩ : ∃ y0 y1 y2, ws = [y0, y1, y2] := by
      match ws, (show ws.length = 3 by rw [el, n3]) with
      | [y0, y1, y2], _ => exact ⟨y0, y1, y2, rfl⟩
     have ew : H6 wl = some (.lst [.int y0, .int y1, .int y2]) := ew
     obtain ⟨x, ex, x1, x2⟩ : ∃ x : Int, atI [V.int 1, V.int 1, V.int 1, V.int 2] (n % 4) = some (.int x) ∧ 1 ≤ x ∧ x ≤ 16 := by
      have : n % 4 = 0 ∨ n % 4 = 1 ∨ n % 4 = 2 ∨ n % 4 = 3 := by omega
      rcases this with h | h | h | h <;> rw [h] <;> exact ⟨_, rfl, by decide, by decide⟩
     walk_at "rd"
     rename_i D hD L hL
     have c7 : Ch [] H6 (upd H6 D (.lst [V.int 1, V.int 1, V.int 1, V.int 2])) := Ch.new hD _
     have c8 : Ch [] H6 (upd (upd H6 D (.lst [V.int 1, V.int 1, V.int 1, V.int 2])) L (.lst [.int x, .int wi, .int y2])) := c7.trans (Ch.new hL _)
     have hL' := chFree c7 hL
     have nb' : L ≠ b := fun e => by rw [e, b6] at hL'; cases hL'
     refine ⟨L, rfl, (chFree' d6 hL').resolve_left nb', nb', d6.trans c8.wk, c8.get b6 (by simp), ⟨[x, wi, y2], zaah, by rw [n3]; rfl, ?_⟩, bs6.h.same c8⟩
     intro y hy
     simp only [List.mem_cons, List.not_mem_nil, or_false] at hy
     rcases hy with rfl | rfl | rfl
     ·exact ⟨x1, x2⟩
     ·exact ⟨w1, w2⟩
     ·exact ea _ (by simp)
    ·walk_at "rd"
     exact ⟨wl, rfl, n4, nb, d6, b6, W6, bs6.h⟩
   clear bs6 W6 b6 d6 n4 nb
   rintro σ H7 ⟨wl, rfl, n4, nb, d7, b7, W7, S7⟩
   have bs7 : Box (Scr K H7 a ns) := ⟨S7⟩
   clear S7
   refine zab7 (fun σ H' => Box (σ = [some (.ref a), some (.ref b), some (.int m), some (.str wo), some (.int wi), some (.int n), none, none, some (.ref wl), v9, v10, none, none, none, none, none, none] ∧ Ch [b] H H' ∧ H' b = some (.lst [.int c']) ∧ WsR H' wl (nn + 1) ∧ Scr K H' a ns)) ?_ ?_
   ·walk_at "rd"
    refine ite2 (fun h => ?_) (fun h => ?_)
    ·have n3 : nn = 1 := wc.join (by simpa using h)
     walk_at "rd"
     refine ite2 (fun h => ?_) (fun h => ?_)
     ·obtain ⟨ws, ew, el, ea⟩ := W7.ex
      obtain ⟨y0, y1, rfl⟩ : ∃ y0 y1, ws = [y0, y1] := by
       match ws, (show ws.length = 2 by rw [el, n3]) with
       | [y0, y1], _ => exact ⟨y0, y1, rfl⟩
      have ew : H7 wl = some (.lst [.int y0, .int y1]) := ew
      walk_at "rd"
      refine ⟨rfl, Ch.own n4 d7, zabc nb.symm b7, ⟨[y0, 17 - (if wi < 16 then wi else 16)], zaah, by rw [n3]; rfl, fun y hy => ?_⟩, bs7.h.ch ew Ch.put⟩
      simp only [List.mem_cons, List.not_mem_nil, or_false] at hy
      rcases hy with rfl | rfl
      ·exact ea _ (by simp)
      ·constructor <;> split <;> omega
     ·walk_at "rd"
      exact ⟨rfl, d7, b7, W7, bs7.h⟩
    ·walk_at "rd"
     exact ⟨rfl, d7, b7, W7, bs7.h⟩
   clear bs7 W7 b7 d7
   rintro σ H8 ⟨rfl, d8, b8, ⟨ws, e8, el, ea⟩, S8⟩
   have bs8 : Box (Scr K H8 a ns) := ⟨S8⟩
   clear S8
   walk_at "rd"
   rename_i pl hpl
   refine zab7 (fun σ H' => Box (∃ rl, σ = [some (.ref a), some (.ref b), some (.int m), some (.str wo), some (.int wi), some (.int n), none, none, some (.ref wl), v9, v10, some (.ref pl), some (.ref rl), none, none, none, none] ∧ Ch [b] H H' ∧ H' b = some (.lst [.int c']) ∧ H' wl = some (.lst (ws.map V.int)) ∧ H' pl = some (.lst []) ∧ H' rl = some (.lst []) ∧ Scr K H' a ns ∧ (H pl = none ∧ H rl = none) ∧ (pl ≠ b ∧ rl ≠ b ∧ pl ≠ rl ∧ pl ≠ wl ∧ rl ≠ wl))) ?_ ?_
   ·walk_at "rd"
    rename_i rl hrl
    have c9 : Ch [] H8 (upd (upd H8 pl (.lst [])) rl (.lst [])) := (Ch.new hpl _).trans (Ch.new hrl _)
    have hrl' : H8 rl = none := chFree (Ch.new hpl _) hrl
    have pb : pl ≠ b := fun e => by rw [e, b8] at hpl; cases hpl
    have rb : rl ≠ b := fun e => by rw [e, b8] at hrl'; cases hrl'
    exact ⟨rl, rfl, d8.trans c9.wk, c9.get b8 (by simp), c9.get e8 (by simp), zaa6 hrl zaah, zaah, bs8.h.same c9, ⟨(chFree' d8 hpl).resolve_left pb, (chFree' d8 hrl').resolve_left rb⟩, pb, rb, (fun e => by rw [← e, zaah] at hrl; cases hrl), (fun e => by rw [e, e8] at hpl; cases hpl), (fun e => by rw [e, e8] at hrl'; cases hrl')⟩
   clear bs8 b8 d8 e8 hpl
   rintro σ H9 ⟨rl, rfl, d9, b9, e9, p9, r9, S9, ⟨fp, fr⟩, ⟨pb, rb, pr, pw, rw'⟩⟩
   have bs9 : Box (Scr K H9 a ns) := ⟨S9⟩
   clear S9
   walk_at "rd"
   refine zahv (xs := ws.map V.int) (fun i σ H' => Box (∃ v6 v13 v14 v15 c2 ts, σ = [some (.ref a), some (.ref b), some (.int m), some (.str wo), some (.int wi), some (.int n), v6, none, some (.ref wl), v9, v10, some (.ref pl), some (.ref rl), v13, v14, v15, none] ∧ Ch [b] H H' ∧ H' b = some (.lst [.int c2]) ∧ c' ≤ c2 ∧ c2 ≤ c' + i ∧ H' wl = some (.lst (ws.map V.int)) ∧ Tg H' pl rl ts i ∧ Scr K H' a ns)) ⟨none, none, none, none, c', [], rfl, d9, b9, by omega, by omega, e9, ⟨rfl, .nil, fun i t h => by simp at h, ⟨[], p9, .nil⟩, ⟨[], r9, .nil⟩⟩, bs9.h⟩ ?_ ?_ ?_
   ·rintro i σ HA hi ⟨v6, v13, v14, v15, c2, ts, rfl, dA, bA, k2, k3, eA, tA, SA⟩
    walk_at "sq"
   ·rintro i x σ HA T hx ⟨v6, v13, v14, v15, c2, ts, rfl, dA, bA, k2, k3, eA, tA, SA⟩ hT
    rw [List.getElem?_map] at hx
    obtain ⟨x, hx', rfl⟩ := Option.map_eq_some_iff.mp hx
    have hx3 : i < 3 := by have := (List.getElem?_eq_some_iff.mp hx').1; omega
    obtain ⟨x1, x2⟩ := ea x (List.mem_of_getElem? hx')
    clear d9 b9 e9 p9 r9 bs9 ea hx hx'
    have cB : Ch [] HA (upd HA T (.tup [.int i, .int x])) := Ch.new hT _
    have sB : Box (Scr K (upd HA T (.tup [.int i, .int x])) a ns) := ⟨SA.same cB⟩
    have bB := cB.get bA (by simp)
    clear SA
    walk_at "rd"
    refine ⟨sB.h, bB, by omega, by omega, x1, x2, by omega, by omega, fun kd j T2 HC kk jj dC bC tC => ?_⟩
    rw [Int.toNat_natCast] at tC
    obtain ⟨pe, r2, ps, f2, eT, lf, er, pr2⟩ := tC.ex
    have SC : Scr K HC a ns := sB.h.ch bB dC
    have eC := dC.get (cB.get eA (by simp)) (by simpa using nb)
    obtain ⟨qs, eq, pq⟩ := tA.p
    obtain ⟨us, eu, pu⟩ := tA.r
    have lq : qs.length = i := by rw [← pq.length, List.length_map, tA.l]
    have lu : us.length ≤ 6 := by have := zag4 ts; have := tA.l; rw [← pu.length]; omega
    have lp : ps.length ≤ 2 := by rw [← pr2.length]; exact zajb _
    have tu0 : Tu HA HC := (Tu.same cB).trans (Tu.lst dC bB)
    have e1 := dC.get (cB.get eq (by simp)) (by simpa using pb)
    have e2 := dC.get (cB.get eu (by simp)) (by simpa using rb)
    have r2p : r2 ≠ pl := fun e => by rw [e, cB.get eq (by simp)] at f2; cases f2
    have dC' : Ch [b] H HC := (dA.trans cB.wk).trans dC
    clear sB bB dC tC f2 cB
    have bsC : Box (Scr K HC a ns) := ⟨SC⟩
    clear SC
    have e3 : upd HC pl (.lst (qs.map V.ref ++ [.ref pe])) rl = some (.lst (us.map V.ref)) := zabc pr.symm e2
    have e4 : upd HC pl (.lst (qs.map V.ref ++ [.ref pe])) r2 = some (.lst (ps.map V.ref)) := zabc r2p er
    have l1 : (qs.map V.ref).length < sizeLine := by rw [sizeLine_eq, List.length_map]; omega
    have l2 : (us.map V.ref).length + (ps.map V.ref).length ≤ sizeLine := by rw [sizeLine_eq, List.length_map, List.length_map]; omega
    have tu1 : Tu HC (upd (upd HC pl (.lst (qs.map V.ref ++ [.ref pe]))) rl (.lst (us.map V.ref ++ ps.map V.ref))) := (zak1 e1).trans (zak1 e3)
    walk_at "rd"
    refine ⟨_, _, _, _, c2 + 1, ts ++ [⟨kd, nmOf j i, x⟩], rfl, Ch.own fr (Ch.own fp dC'), zabc rb.symm (zabc pb.symm bC), by omega, by omega, zabc rw'.symm (zabc pw.symm eC), Tg.step tA hx3 jj rfl ⟨kk, x1, x2⟩ (tu0.trans tu1) (lf.tu tu1) (zaax (fun _ _ => RwAt.tu tu1) pr2) (fun xs hxs => ?_) (fun xs hxs => ?_), (bsC.h.ch e1 Ch.put).ch e3 Ch.put⟩
    ·rw [eq] at hxs
     cases hxs
     exact zabc pr zaah
    ·rw [eu] at hxs
     cases hxs
     exact zaah
   ·rintro σ HA ⟨v6, v13, v14, v15, c2, ts, rfl, dA, bA, k2, k3, eA, tA, SA⟩
    clear SA d9 b9 e9 p9 r9 bs9 ea
    rw [List.length_map, el] at tA k3
    refine zab7 (fun σ H' => Box (∃ p2 vs o v16, σ = [some (.ref a), some (.ref b), some (.int m), some (.str wo), some (.int wi), some (.int n), v6, none, some (.ref wl), v9, v10, some (.ref p2), some (.ref rl), v13, v14, v15, v16] ∧ Ch [b] H H' ∧ H' b = some (.lst [.int c2]) ∧ H' p2 = some (.lst vs) ∧ vs.length ≤ 3 ∧ Pre H' rl wo vs o)) ?_ ?_
    ·walk_at "rd"
     refine ite2 (fun h => ?_) (fun h => ?_)
     ·have ew : wo = "part" := by simpa using h
      have n0' : nn = 0 := wc.part ew
      subst ew n0'
      obtain ⟨t, rfl⟩ : ∃ t, ts = [t] := by
       match ts, tA.l with
       | [t], _ => exact ⟨t, rfl⟩
      obtain ⟨qs, eq, pq⟩ := tA.p
      obtain ⟨q1, rfl, hq⟩ : ∃ q1, qs = [q1] ∧ LfAt HA q1 (lfT t) := by
       cases pq with
       | cons h1 h2 => cases h2; exact ⟨_, rfl, h1⟩
      have eq : HA pl = some (.lst [.ref q1]) := eq
      walk_at "rd"
      refine zab7 (fun σ H' => Box (∃ lw, σ = [some (.ref a), some (.ref b), some (.int m), some (.str "part"), some (.int wi), some (.int n), v6, none, some (.ref wl), v9, v10, some (.ref pl), some (.ref rl), v13, v14, v15, some (.int lw)] ∧ 0 ≤ lw ∧ Ch [] HA H')) ?_ ?_
      ·walk_at "rd"
       rename_i D hD
       obtain ⟨lw, e, l0⟩ : ∃ lw : Int, atI [V.int 0, V.int (wi - 1), V.int wi, V.int (n % 17)] (n / 17 % 4) = some (.int lw) ∧ 0 ≤ lw := by
        have : n / 17 % 4 = 0 ∨ n / 17 % 4 = 1 ∨ n / 17 % 4 = 2 ∨ n / 17 % 4 = 3 := by omega
        rcases this with h | h | h | h <;> rw [h] <;> exact ⟨_, rfl, by omega⟩
       refine Atx.of e ?_
       exact ⟨lw, rfl, l0, Ch.new hD _⟩
      rintro σ HB ⟨lw, rfl, l0, cB⟩
      have eB := cB.get eq (by simp)
      obtain ⟨x, ex⟩ : ∃ x : Int, atI [V.int (wi - lw), V.int (wi - lw + 1), V.int 0, V.int 1] (n / 68 % 4) = some (.int x) := by
       have : n / 68 % 4 = 0 ∨ n / 68 % 4 = 1 ∨ n / 68 % 4 = 2 ∨ n / 68 % 4 = 3 := by omega
       rcases this with h | h | h | h <;> rw [h] <;> exact ⟨_, rfl⟩
      walk_at "rd"
      rename_i D hD L1 hL1 L2 hL2
      have cc := cB.trans (((Ch.new hD (.lst [.int (wi - lw), .int (wi - lw + 1), .int 0, .int 1])).trans (Ch.new hL1 (.lst [.int lw, .int (if x > 0 then x else 0)]))).trans (Ch.new hL2 (.lst ([V.ref q1] ++ [V.int lw, V.int (if x > 0 then x else 0)]))))
      obtain ⟨ps, er, pr⟩ := tA.r
      refine ⟨L2, _, .pt t lw (if x > 0 then x else 0), _, rfl, dA.trans cc.wk, cc.get bA (by simp), zaah, by simp, ⟨fun H' T k q => ⟨q1, q, LfAt.tu ((Tu.same cc).trans k) hq⟩, zaq5 t, ⟨ps, cc.get er (by simp), zaax (fun _ _ => RwAt.tu (Tu.same cc)) pr⟩, ⟨tA.t, tA.nf (by omega)⟩, ?_, l0⟩⟩
      have := zag4 [t]
      show ([t].flatMap rowsT).length ≤ 6
      rw [List.length_singleton] at this
      omega
     ·have ew : wo ≠ "part" := fun e => h (by simpa using e)
      obtain ⟨vs, e1, e2, e3⟩ := tA.pre n2 wc ew
      walk_at "rd"
      exact ⟨pl, vs, _, none, rfl, dA, bA, e1, e2, e3⟩
    clear tA bA eA dA
    rintro σ HB ⟨p2, vs, o, v16, rfl, dB, bB, e1, e2, e3⟩
    walk_at "rd"
    rename_i L1 h1 L2 h2 T hT R hR
    have cc := ((Ch.new (W := []) h1 (.lst [.str wo])).trans (Ch.new h2 (.lst ([.str wo] ++ vs)))).trans (Ch.new hT (.tup ([.str wo] ++ vs)))
    have cd := cc.trans (Ch.new hR (.tup [.ref T, .ref rl]))
    obtain ⟨ps, er, pr⟩ := e3.r
    exact q o R T rl c2 _ (dB.trans cd.wk) (cd.get bB (by simp)) (by omega) (by omega) zaah ⟨e3.e _ T (Tu.same cd) (zaa6 hR zaah), e3.x, ⟨ps, cd.get er (by simp), zaax (fun _ _ => RwAt.tu (Tu.same cd)) pr⟩, e3.k, e3.n, e3.lo⟩
end
end

section
local macro_rules | `(tactic| walk_at "user") => `(tactic| first
 | (apply zafr; walk_at "get")
 | (apply zab9; (focus walk_at "get"); (focus with_reducible assumption)))
structure TAt (H : Hp) (wd us : Addr) (t : Th9) : Prop where
 n : t.kd ≠ 2 → ∃ kvs, H wd = some (.dK kvs) ∧ valV kvs (.inr t.nm) = some (.int t.w)
 u : t.kd = 2 → ∃ kvs T L0 L1 P, H us = some (.dK kvs) ∧ valV kvs (.inr t.nm) = some (.ref T) ∧ H T = some (.tup [.ref L0, .ref L1]) ∧ H L1 = some (.lst [.ref P]) ∧ H P = some (.tup [.str "big", .int t.w])
theorem TAt.ch {H H' : Hp} {wd us : Addr} {t : Th9} (c : Ch [] H H') (h : TAt H wd us t) : TAt H' wd us t := ⟨fun k => by obtain ⟨kvs, a, b⟩ := h.n k; exact ⟨kvs, c.get a (by simp), b⟩, fun k => by obtain ⟨kvs, T, L0, L1, P, a, b, d, e, f⟩ := h.u k; exact ⟨kvs, T, L0, L1, P, c.get a (by simp), b, c.get d (by simp), c.get e (by simp), c.get f (by simp)⟩⟩
theorem zana {H : Hp} {p : Addr} {l : Lf} (h : LfAt H p l) : ∃ xs, H p = some (.tup xs) := by
 cases l with
 | nm n => exact ⟨_, h⟩
 | of a b => exact ⟨_, h⟩
 | val v w => exact ⟨_, h⟩
section
variable {P : Program} {w : World} {K : PySem.W.Frag} {mg : Str → Option Value} {base : Heap} {f : Addr} {fd : FuncData} {k : Nat}
theorem zadq : Nd "_law_wide" := by decide +kernel
theorem av31 : AF (defScope (top 31)) ["_law_expr", "_law_widths", "_law_used", "_law_word", "_law_outs", "_law_wides"] := ⟨by decide +kernel⟩
def zaip : Scope := { kind := PySem.ScopeKind.function, names := [ (PySem.Str.ofString ".0", PySem.NameKind.local), (PySem.Str.ofString "_law_name", PySem.NameKind.local), (PySem.Str.ofString "_law_wide_here", PySem.NameKind.local), (PySem.Str.ofString "_law_expr", PySem.NameKind.free)], isGenerator := false, isCoroutine := false, more := [] : PySem.Scope }
theorem zaex : CompOk zaip (defScope (top 31)) (["_law_name", "_law_wide_here"] : List Str) (["_law_expr", "_law_widths", "_law_used", "_law_word", "_law_outs", "_law_wides"] : List Str) [0] (["_law_name", "_law_wide_here", "_law_expr"] : List Str) := compOk rfl (by decide +kernel) (by decide +kernel) (by decide +kernel) (by decide +kernel) rfl (by decide +kernel)
theorem zadr : AK (relab zaip (defScope (top 31))) ["_law_name", "_law_wide_here"] := ⟨by decide +kernel⟩
theorem zaey : AV (relab zaip (defScope (top 31))) ["_law_name", "_law_wide_here", "_law_expr"] := ⟨by decide +kernel⟩
theorem gl31 : AG (defScope (top 31)) ["int", "_law_power", "min", "sum", "len"] := ⟨by decide +kernel⟩
def zag6 : Scope := { kind := PySem.ScopeKind.function, names := [ (PySem.Str.ofString ".0", PySem.NameKind.local), (PySem.Str.ofString "_law_part", PySem.NameKind.local), (PySem.Str.ofString "isinstance", PySem.NameKind.globalImplicit), (PySem.Str.ofString "tuple", PySem.NameKind.globalImplicit), (PySem.Str.ofString "_law_wide", PySem.NameKind.globalImplicit), (PySem.Str.ofString "_law_used", PySem.NameKind.free), (PySem.Str.ofString "_law_widths", PySem.NameKind.free)], isGenerator := false, isCoroutine := false, more := [] : PySem.Scope }
theorem zag7 : CompOk zag6 (defScope (top 31)) (["_law_part"] : List Str) (["_law_expr", "_law_widths", "_law_used", "_law_word", "_law_outs", "_law_wides"] : List Str) [1, 2] (["_law_part", "_law_widths", "_law_used"] : List Str) := compOk rfl (by decide +kernel) (by decide +kernel) (by decide +kernel) (by decide +kernel) rfl (by decide +kernel)
theorem zag8 : AK (relab zag6 (defScope (top 31))) ["_law_part"] := ⟨by decide +kernel⟩
theorem zaez : AG (relab zag6 (defScope (top 31))) ["isinstance", "tuple", "_law_wide"] := ⟨by decide +kernel⟩
theorem zads : AV (relab zag6 (defScope (top 31))) ["_law_part", "_law_widths", "_law_used"] := ⟨by decide +kernel⟩
def spL0 : Sp := fun vs _ _ _ => vs.length = 3 ∧ False
theorem scLW : FnScope ["_law_expr", "_law_widths", "_law_used", "_law_word", "_law_outs", "_law_wides"] ["_law_expr", "_law_widths", "_law_used"] (defScope (top 31)) := ⟨rfl, rfl, rfl, by decide +kernel, rfl, by decide +kernel, by decide +kernel⟩
theorem zar3 (F : Fun K "_law_wide" "_law_wide" (top 31) f fd) : FnOk P w K mg base CX0 (k + 1) f fd ["_law_expr", "_law_widths", "_law_used"] spL0 :=
 F.ok scLW (fun vs H Q E h => h.1) (fun cdv A outer s H vs Q E hr h => h.2.elim)
def spL1 : Sp := fun vs H Q _ => ∃ (p wd us : Addr) (t : Th9), vs = [.ref p, .ref wd, .ref us] ∧ LfS H p (lfT t) ∧ TAt H wd us t ∧ ∀ H', Ch [] H H' → Q (.int t.w) H'
theorem zar4 (F : Fun K "_law_wide" "_law_wide" (top 31) f fd) (D_law_wide : DefOk P w K mg base CX0 k "_law_wide" ["_law_expr", "_law_widths", "_law_used"] spL0) (D_law_power : DefOk P w K mg base CX0 k "_law_power" ["_law_wide_here"] spPow) (z_int : mg "int" = none) (z_min : mg "min" = none) (z_sum : mg "sum" = none) (z_len : mg "len" = none) (z_isinstance : mg "isinstance" = none) (z_tuple : mg "tuple" = none) : FnOk P w K mg base CX0 (k + 1) f fd ["_law_expr", "_law_widths", "_law_used"] spL1 := by
 have nd := scLW.nd
 refine F.ok scLW (fun vs H Q E h => by obtain ⟨p, wd, us, t, rfl, _⟩ := h; rfl) (fun cdv A outer s H vs Q E hr h => ?_)
 obtain ⟨p, wd, us, t, rfl, ⟨la⟩, ta, q⟩ := h
 have hu := zac8 hr
 refine ⟨_, (Pr.h (zaad (zaa1 (i := 3) nd rfl (av31.l 3 rfl) (zaal zaat (qv av31 0 rfl) zaab (fun _ _ => rfl))) (zaad (zaaw (zaaq zabg (qv av31 3 rfl) zaap (nomark _)) (zaaf (zaaj (zacp hu (qv av31 1 rfl) (zaal zaat (qv av31 0 rfl) zaab (fun _ _ => rfl)) zaab ⟨rfl, rfl, rfl, rfl⟩))) zaak) (zaad (zaaw (zaaq zabg (qv av31 3 rfl) zaap (nomark _)) (zaad (zadx (i := 4) nd rfl (av31.l 4 rfl) rfl zaex (zact (zaal zaat (zacp hu (qv av31 2 rfl) (zaal zaat (qv av31 0 rfl) zaab (fun _ _ => rfl)) (zaa4 (zaaa (zaa5 zaac) (zaaa (zaa5 zaac) zaac zacr) zacr)) ⟨rfl, rfl, rfl, rfl⟩) zaab (fun _ _ => rfl))) (fun _ _ _ _ _ => (zady K 2 rfl rfl (zabb (zaa2 (i := 0) zaex.nd rfl (Or.inl (zadr.k 0 rfl)) (Or.inr (zadr.k 0 rfl))) (zabb (zaa2 (i := 1) zaex.nd rfl (Or.inl (zadr.k 1 rfl)) (Or.inr (zadr.k 1 rfl))) zacl)))) (fun _ _ _ _ _ => (zafb (zaaq zabg (qw zaey 0 rfl) (zaal (zafc K rfl) (qw zaey 2 rfl) zaab (fun _ _ => rfl)) (nomark _)))) (fun _ _ _ _ _ => (qw zaey 1 rfl)) rfl) (zaaf (zaaj (zaal zaaz (zaau zad1 (qv av31 4 rfl) (zaa5 (zaaa zaab zaac zaae))) zaab (fun _ _ => rfl))))) zaak) (zaad (zaaw (zaaq zabg (qv av31 3 rfl) zaap (nomark _)) (zaaf (zaaj (zaau zacy (zaal zaat (qv av31 0 rfl) zaab (fun _ _ => rfl)) (zabj zacn (gl31.g 0 rfl) z_int zadm (zaaa (zabw (zac4 zaeg zaeg zaab (zaal zaat (qv av31 0 rfl) zaab (fun _ _ => rfl)) zaab) (zab3 (zac4 zaeg zaje zaab (zaal zaat (qv av31 0 rfl) zaab (fun _ _ => rfl)) (zaar D_law_power hr (gl31.g 1 rfl) pass0 (zaaa (zaau zabv (zaal zaat (qv av31 0 rfl) zaab (fun _ _ => rfl)) zaab) zaac zaa7) zadg)))) zaac zac3) zadn zado)))) zaak) (zaad (zadx (i := 5) nd rfl (av31.l 5 rfl) rfl zag7 (zaek (zad8 zais (qv av31 0 rfl) (zafa zaab) zae9)) (fun _ _ _ _ _ => (zaa2 (i := 0) zag7.nd rfl (Or.inl (zag8.k 0 rfl)) (Or.inr (zag8.k 0 rfl)))) (fun _ _ _ _ _ => (zafb (zaba (zaai (zahx K rfl) (zaez.g 0 rfl) z_isinstance zaam (zaaa (qw zads 0 rfl) (zaaa (zaa0 (v := .ty "tuple") (zaez.g 1 rfl) z_tuple zabs rfl zabt zabu) zaac)) zaan zaao)))) (fun _ _ _ _ _ => (zaar D_law_wide hr (zaez.g 2 rfl) pass0 (zaaa (qw zads 0 rfl) (zaaa (qw zads 1 rfl) (zaaa (qw zads 2 rfl) zaac zaag) zaag) zaag) zadq)) rfl) (zaad (zaaw (zaaq zabg (zaai (zahz rfl) (gl31.g 2 rfl) z_min zala (zaaa (qv av31 5 rfl) zaac zaag) zalb zalc) zaab (nomark _)) (zaaf (zaaj zaab)) zaak) (zaad (zaaw (zaaq zabg (qv av31 3 rfl) zaap (nomark _)) (zaaf (zaaj (zaau zacy (zaal zaat (qv av31 0 rfl) zaab (fun _ _ => rfl)) (zabj zacn (gl31.g 0 rfl) z_int zadm (zaaa (zabw (zabd zaj3 (zaal zaat (qv av31 0 rfl) zaab (fun _ _ => rfl)) zaab (nomark _)) (zab3 (zabd zaeg (zaau zabo (zaal zaat (qv av31 0 rfl) zaab (fun _ _ => rfl)) (zaal zaat (qv av31 0 rfl) zaab (fun _ _ => rfl))) (zaal zaaz (qv av31 5 rfl) zaab (fun _ _ => rfl)) (nomark _)))) zaac zac3) zadn zado)))) zaak) (zaad (zaaw (zaaq zabg (qv av31 3 rfl) zaap (nomark _)) (zaaf (zaaj (zaau zacy (zaai (zadd rfl) (gl31.g 3 rfl) z_sum zafu (zaaa (qv av31 5 rfl) zaac zaag) zafv zafw) (zabj zacn (gl31.g 0 rfl) z_int zadm (zaaa (zabd zaeg (zaai (zadd rfl) (gl31.g 3 rfl) z_sum zafu (zaaa (qv av31 5 rfl) zaac zaag) zafv zafw) zaab (nomark _)) zaac zaf8) zadn zado)))) zaak) (zaad (zaaw (zaaq zabg (qv av31 3 rfl) zaap (nomark _)) (zaaf (zaaj (zaau zacy (zaal zaaz (qv av31 5 rfl) zaab (fun _ _ => rfl)) (zabj zacn (gl31.g 0 rfl) z_int zadm (zaaa (zabw (zabd zabg (zaal zaaz (qv av31 5 rfl) zaab (fun _ _ => rfl)) zaab (nomark _)) (zab3 (zabd zabg (zaal zaaz (qv av31 5 rfl) zaab (fun _ _ => rfl)) (zaal zaaz (qv av31 5 rfl) zaab (fun _ _ => rfl)) (nomark _)))) zaac zac3) zadn zado)))) zaak) (zaad (zaaw (zaaq zadh (zaal zaaz (qv av31 5 rfl) zaab (fun _ _ => rfl)) (zaal zaaz (qv av31 5 rfl) (zaau zad3 (zaai zaay (gl31.g 4 rfl) z_len PySem.boot_len (zaaa (qv av31 5 rfl) zaac zaag) zabp zabq) zaab) (fun _ _ => rfl)) (nomark _)) (zaaf (zaaj zaab)) zaak) (zaaf (zaaj (zacw (zaaq zac1 (qv av31 3 rfl) (zaa4 (zaaa zaap (zaaa zaap zaac zaae) zaae)) rfl) zaab (zaal zaaz (qv av31 5 rfl) zaab (fun _ _ => rfl)))))))))))))))), ?_⟩
 (try dsimp only [cxOf])
 by_cases k2 : t.kd = 2
 ·have la : H p = some (.tup [.str "of", .str t.nm, .str "big"]) := by
   have e : lfT t = .of t.nm "big" := if_pos k2
   rw [e] at la
   exact la
  obtain ⟨kvs, T, L0, L1, P, a, b, d, e, f⟩ := ta.u k2
  walk_at "rd"
  rename_i A1 h1 A2 h2 A3 h3
  have cc : Ch [] H (upd (upd (upd H A1 (.lst [])) A2 (.lst [])) A3 (.tup [.ref A1, .ref A2])) := ((Ch.new h1 _).trans (Ch.new h2 _)).trans (Ch.new h3 _)
  have la := cc.get la (by simp)
  have e := cc.get e (by simp)
  have f := cc.get f (by simp)
  generalize upd (upd (upd H A1 (.lst [])) A2 (.lst [])) A3 (.tup [.ref A1, .ref A2]) = H1 at cc la e f ⊢
  refine zad9 [.ref P] (fun i ys σ H' => H' = H1 ∧ ys = ([V.int t.w].take i) ∧ ∃ u v, σ = [u, v, some (.ref p)]) (by rw [sizeLine_eq]; simp) ⟨rfl, rfl, _, _, rfl⟩ ?_ ?_ ?_
  ·rintro i ys σ H' hi ⟨rfl, rfl, _⟩
   exact ⟨by simp; omega, SqL.of e⟩
  ·rintro i ys σ H' z hz ⟨rfl, rfl, u, v, rfl⟩
   match i, hz with
   | 0, hz =>
    cases hz
    walk_at "rd"
  ·rintro ys σ H' ⟨rfl, rfl, _⟩
   intro D hD
   rw [show List.take [V.ref P].length [V.int t.w] = [V.int t.w] from rfl]
   walk_at "rd"
   rename_i D1 hD1 D2 hD2
   exact q _ (cc.trans (((Ch.new hD _).trans (Ch.new hD1 _)).trans (Ch.new hD2 _)))
 ·have la : H p = some (.tup [.str "name", .str t.nm]) := by
   have e : lfT t = .nm t.nm := if_neg k2
   rw [e] at la
   exact la
  obtain ⟨kvs, a, b⟩ := ta.n k2
  walk_at "rd"
  exact q _ (Ch.refl _ _)
def spL2 : Sp := fun vs H Q _ => ∃ (p wd us : Addr) (o : Out9), vs = [.ref p, .ref wd, .ref us] ∧ ExS H p (exO9 o) ∧ OOk o ∧ OLo o ∧ (∀ t ∈ tsO o, TAt H wd us t) ∧ ∀ H', Ch [] H H' → Q (.int (oW o)) H'
theorem zar5 (F : Fun K "_law_wide" "_law_wide" (top 31) f fd) (D_law_wide : DefOk P w K mg base CX0 k "_law_wide" ["_law_expr", "_law_widths", "_law_used"] spL1) (D_law_power : DefOk P w K mg base CX0 k "_law_power" ["_law_wide_here"] spPow) (z_int : mg "int" = none) (z_min : mg "min" = none) (z_sum : mg "sum" = none) (z_len : mg "len" = none) (z_isinstance : mg "isinstance" = none) (z_tuple : mg "tuple" = none) : FnOk P w K mg base CX0 (k + 1) f fd ["_law_expr", "_law_widths", "_law_used"] spL2 := by
 have nd := scLW.nd
 refine F.ok scLW (fun vs H Q E h => by obtain ⟨p, wd, us, t, rfl, _⟩ := h; rfl) (fun cdv A outer s H vs Q E hr h => ?_)
 obtain ⟨p, wd, us, o, rfl, ⟨xa, xo⟩, ok, lo, ta, q⟩ := h
 have hu := zac8 hr
 refine ⟨_, (Pr.h (zaad (zaa1 (i := 3) nd rfl (av31.l 3 rfl) (zaal zaat (qv av31 0 rfl) zaab (fun _ _ => rfl))) (zaad (zaaw (zaaq zabg (qv av31 3 rfl) zaap (nomark _)) (zaaf (zaaj (zacp hu (qv av31 1 rfl) (zaal zaat (qv av31 0 rfl) zaab (fun _ _ => rfl)) zaab ⟨rfl, rfl, rfl, rfl⟩))) zaak) (zaad (zaaw (zaaq zabg (qv av31 3 rfl) zaap (nomark _)) (zaad (zadx (i := 4) nd rfl (av31.l 4 rfl) rfl zaex (zact (zaal zaat (zacp hu (qv av31 2 rfl) (zaal zaat (qv av31 0 rfl) zaab (fun _ _ => rfl)) (zaa4 (zaaa (zaa5 zaac) (zaaa (zaa5 zaac) zaac zacr) zacr)) ⟨rfl, rfl, rfl, rfl⟩) zaab (fun _ _ => rfl))) (fun _ _ _ _ _ => (zady K 2 rfl rfl (zabb (zaa2 (i := 0) zaex.nd rfl (Or.inl (zadr.k 0 rfl)) (Or.inr (zadr.k 0 rfl))) (zabb (zaa2 (i := 1) zaex.nd rfl (Or.inl (zadr.k 1 rfl)) (Or.inr (zadr.k 1 rfl))) zacl)))) (fun _ _ _ _ _ => (zafb (zaaq zabg (qw zaey 0 rfl) (zaal (zafc K rfl) (qw zaey 2 rfl) zaab (fun _ _ => rfl)) (nomark _)))) (fun _ _ _ _ _ => (qw zaey 1 rfl)) rfl) (zaaf (zaaj (zaal zaaz (zaau zad1 (qv av31 4 rfl) (zaa5 (zaaa zaab zaac zaae))) zaab (fun _ _ => rfl))))) zaak) (zaad (zaaw (zaaq zabg (qv av31 3 rfl) zaap (nomark _)) (zaaf (zaaj (zaau zacy (zaal zaat (qv av31 0 rfl) zaab (fun _ _ => rfl)) (zabj zacn (gl31.g 0 rfl) z_int zadm (zaaa (zabw (zac4 zaeg zaeg zaab (zaal zaat (qv av31 0 rfl) zaab (fun _ _ => rfl)) zaab) (zab3 (zac4 zaeg zaje zaab (zaal zaat (qv av31 0 rfl) zaab (fun _ _ => rfl)) (zaar D_law_power hr (gl31.g 1 rfl) pass0 (zaaa (zaau zabv (zaal zaat (qv av31 0 rfl) zaab (fun _ _ => rfl)) zaab) zaac zaa7) zadg)))) zaac zac3) zadn zado)))) zaak) (zaad (zadx (i := 5) nd rfl (av31.l 5 rfl) rfl zag7 (zaek (zad8 zais (qv av31 0 rfl) (zafa zaab) zae9)) (fun _ _ _ _ _ => (zaa2 (i := 0) zag7.nd rfl (Or.inl (zag8.k 0 rfl)) (Or.inr (zag8.k 0 rfl)))) (fun _ _ _ _ _ => (zafb (zaba (zaai (zahx K rfl) (zaez.g 0 rfl) z_isinstance zaam (zaaa (qw zads 0 rfl) (zaaa (zaa0 (v := .ty "tuple") (zaez.g 1 rfl) z_tuple zabs rfl zabt zabu) zaac)) zaan zaao)))) (fun _ _ _ _ _ => (zaar D_law_wide hr (zaez.g 2 rfl) pass0 (zaaa (qw zads 0 rfl) (zaaa (qw zads 1 rfl) (zaaa (qw zads 2 rfl) zaac zaag) zaag) zaag) zadq)) rfl) (zaad (zaaw (zaaq zabg (zaai (zahz rfl) (gl31.g 2 rfl) z_min zala (zaaa (qv av31 5 rfl) zaac zaag) zalb zalc) zaab (nomark _)) (zaaf (zaaj zaab)) zaak) (zaad (zaaw (zaaq zabg (qv av31 3 rfl) zaap (nomark _)) (zaaf (zaaj (zaau zacy (zaal zaat (qv av31 0 rfl) zaab (fun _ _ => rfl)) (zabj zacn (gl31.g 0 rfl) z_int zadm (zaaa (zabw (zabd zaj3 (zaal zaat (qv av31 0 rfl) zaab (fun _ _ => rfl)) zaab (nomark _)) (zab3 (zabd zaeg (zaau zabo (zaal zaat (qv av31 0 rfl) zaab (fun _ _ => rfl)) (zaal zaat (qv av31 0 rfl) zaab (fun _ _ => rfl))) (zaal zaaz (qv av31 5 rfl) zaab (fun _ _ => rfl)) (nomark _)))) zaac zac3) zadn zado)))) zaak) (zaad (zaaw (zaaq zabg (qv av31 3 rfl) zaap (nomark _)) (zaaf (zaaj (zaau zacy (zaai (zadd rfl) (gl31.g 3 rfl) z_sum zafu (zaaa (qv av31 5 rfl) zaac zaag) zafv zafw) (zabj zacn (gl31.g 0 rfl) z_int zadm (zaaa (zabd zaeg (zaai (zadd rfl) (gl31.g 3 rfl) z_sum zafu (zaaa (qv av31 5 rfl) zaac zaag) zafv zafw) zaab (nomark _)) zaac zaf8) zadn zado)))) zaak) (zaad (zaaw (zaaq zabg (qv av31 3 rfl) zaap (nomark _)) (zaaf (zaaj (zaau zacy (zaal zaaz (qv av31 5 rfl) zaab (fun _ _ => rfl)) (zabj zacn (gl31.g 0 rfl) z_int zadm (zaaa (zabw (zabd zabg (zaal zaaz (qv av31 5 rfl) zaab (fun _ _ => rfl)) zaab (nomark _)) (zab3 (zabd zabg (zaal zaaz (qv av31 5 rfl) zaab (fun _ _ => rfl)) (zaal zaaz (qv av31 5 rfl) zaab (fun _ _ => rfl)) (nomark _)))) zaac zac3) zadn zado)))) zaak) (zaad (zaaw (zaaq zadh (zaal zaaz (qv av31 5 rfl) zaab (fun _ _ => rfl)) (zaal zaaz (qv av31 5 rfl) (zaau zad3 (zaai zaay (gl31.g 4 rfl) z_len PySem.boot_len (zaaa (qv av31 5 rfl) zaac zaag) zabp zabq) zaab) (fun _ _ => rfl)) (nomark _)) (zaaf (zaaj zaab)) zaak) (zaaf (zaaj (zacw (zaaq zac1 (qv av31 3 rfl) (zaa4 (zaaa zaap (zaaa zaap zaac zaae) zaae)) rfl) zaab (zaal zaaz (qv av31 5 rfl) zaab (fun _ _ => rfl)))))))))))))))), ?_⟩
 (try dsimp only [cxOf])
 cases o with
 | val v wi =>
  have la : H p = some (.tup [.str "value", .int v, .int wi]) := xa
  have q : Q (.int (if ofW v wi = true then wi else 0)) H := q H (Ch.refl _ _)
  have xo : wi ≤ 10000 := xo
  walk_at "rd"
  refine ite2 (fun h1 => ?_) (fun h1 => ?_)
  ·walk_at "rd"
   refine ite2 (fun h2 => ?_) (fun h2 => ?_)
   ·have h1 : 1 ≤ wi := by simpa using h1
    have h2 : wi ≤ 16 := by simpa using h2
    walk_at "rd"
    refine ite2 (fun h3 => ?_) (fun h3 => ?_)
    ·walk_at "rd"
     have h3 : 0 ≤ v := by simpa using h3
     have e : wi * (if decide (v < 2 ^ (wi % 17).toNat) = true then 1 else 0) = (if ofW v wi = true then wi else 0) := by
      rw [show wi % 17 = wi by omega]
      unfold ofW isW
      rw [decide_eq_true h1, decide_eq_true h2, decide_eq_true h3]
      simp only [Bool.true_and]
      split <;> simp
     rw [← e] at q
     exact q
    ·walk_at "rd"
     have e : wi * (if false = true then 1 else 0) = (if ofW v wi = true then wi else 0) := by
      have : decide (0 ≤ v) = false := by simpa using h3
      simp [ofW, this]
     rw [← e] at q
     exact q
   ·walk_at "rd"
    have e : wi * (if false = true then 1 else 0) = (if ofW v wi = true then wi else 0) := by
     have : decide (wi ≤ 16) = false := by simpa using h2
     simp [ofW, isW, this]
    rw [← e] at q
    exact q
  ·walk_at "rd"
   have e : wi * (if false = true then 1 else 0) = (if ofW v wi = true then wi else 0) := by
    have : decide (1 ≤ wi) = false := by simpa using h1
    simp [ofW, isW, this]
   rw [← e] at q
   exact q
 | pt t lw wi =>
  obtain ⟨q1, la, lb⟩ := xa
  obtain ⟨tx, et⟩ := zana lb
  obtain ⟨tw1, tw2⟩ := (ok.t.ok t (by simp [tsO])).w
  have ta := ta t (by simp [tsO])
  walk_at "rd"
  rename_i T hT
  rw [show cutV [V.str (Str.ofString "part"), .ref q1, .int lw, .int wi] (some 1) none = [.ref q1, .int lw, .int wi] from rfl]
  have c1 : Ch [] H (upd H T (.tup [.ref q1, .int lw, .int wi])) := Ch.new hT _
  have g1 : upd H T (.tup [.ref q1, .int lw, .int wi]) T = some (.tup [.ref q1, .int lw, .int wi]) := zaah
  generalize upd H T (.tup [.ref q1, .int lw, .int wi]) = H1 at c1 g1 ⊢
  refine zaea [.ref q1, .int lw, .int wi] (fun i ys σ H' => Ch [] H1 H' ∧ ys = ([V.int t.w].take i) ∧ ∃ u, σ = [u, some (.ref wd), some (.ref us)]) (by rw [sizeLine_eq]; simp) ⟨Ch.refl _ _, rfl, _, rfl⟩ ?_ ?_ ?_
  ·rintro i ys σ H' hi ⟨c2, rfl, _⟩
   exact ⟨by simp; omega, SqT.of (c2.get g1 (by simp))⟩
  ·rintro i ys σ H' z hz ⟨c2, rfl, u, rfl⟩
   have c3 := c1.trans c2
   have et := c3.get et (by simp)
   have lb : LfS H' q1 (lfT t) := ⟨lb.tu (Tu.same c3)⟩
   have ta := ta.ch c3
   match i, hz with
   | 0, hz =>
    cases hz
    walk_at "rd"
   | 1, hz =>
    cases hz
    walk_at "rd"
   | 2, hz =>
    cases hz
    walk_at "rd"
  ·rintro ys σ H' ⟨c2, rfl, _⟩
   intro D hD
   rw [show List.take [V.ref q1, V.int lw, V.int wi].length [V.int t.w] = [V.int t.w] from rfl]
   have c3 := c1.trans c2
   have la := c3.get la (by simp)
   have lo : 0 ≤ lw := lo
   have cc := c3.trans (Ch.new hD (.lst [V.int t.w]))
   walk_at "rd"
   refine ⟨(zaah : _ = some (.lst ([t.w].map V.int))), by simp, fun M hM _ => ?_⟩
   cases List.mem_singleton.mp hM
   walk_at "rd"
   refine ite2 (fun h => absurd (show t.w = 0 by simpa using h) (by omega)) (fun _ => ?_)
   walk_at "rd"
   refine ite2 (fun h1 => ?_) (fun h1 => ?_)
   ·walk_at "rd"
    have h1 : 0 < wi := by simpa using h1
    have e : wi * (if decide (lw + wi ≤ t.w) = true then 1 else 0) = partW t.w lw wi := by
     unfold partW
     by_cases h : lw + wi ≤ t.w
     ·rw [decide_eq_true h, if_pos rfl, if_neg (by omega)]; omega
     ·rw [decide_eq_false h, if_neg (by decide : ¬ false = true), if_pos (by omega)]; omega
    have q := q _ cc
    rw [show oW (.pt t lw wi) = partW t.w lw wi from rfl, ← e] at q
    exact q
   ·walk_at "rd"
    have e : wi * (if false = true then 1 else 0) = partW t.w lw wi := by
     have h : ¬ 0 < wi := by simpa using h1
     unfold partW
     rw [if_neg (by decide : ¬ false = true), if_pos (by omega)]; omega
    have q := q _ cc
    rw [show oW (.pt t lw wi) = partW t.w lw wi from rfl, ← e] at q
    exact q
 | br wo ts =>
  obtain ⟨ps, la, lb, ⟨o1, o2, o3, o4⟩, ar⟩ := xa
  have ll := Paired.length lb
  walk_at "rd"
  refine ite2 (fun h => absurd (by simpa using h) o1) (fun _ => ?_)
  walk_at "rd"
  refine ite2 (fun h => absurd (by simpa using h) o2) (fun _ => ?_)
  walk_at "rd"
  refine ite2 (fun h => absurd (by simpa using h) o3) (fun _ => ?_)
  walk_at "rd"
  rename_i T hT
  rw [zak0]
  have c1 : Ch [] H (upd H T (.tup (ps.map V.ref))) := Ch.new hT _
  have g1 : upd H T (.tup (ps.map V.ref)) T = some (.tup (ps.map V.ref)) := zaah
  generalize upd H T (.tup (ps.map V.ref)) = H1 at c1 g1 ⊢
  rw [List.length_map] at ll ar
  obtain ⟨_, l3⟩ := lo
  refine zaea (ps.map V.ref) (fun i ys σ H' => Ch [] H1 H' ∧ ys = ((ts.take i).map (·.w)).map V.int ∧ ∃ u, σ = [u, some (.ref wd), some (.ref us)]) (by rw [sizeLine_eq, List.length_map]; omega) ⟨Ch.refl _ _, rfl, _, rfl⟩ ?_ ?_ ?_
  ·rintro i ys σ H' hi ⟨c2, rfl, _⟩
   exact ⟨by simp; omega, SqT.of (c2.get g1 (by simp))⟩
  ·rintro i ys σ H' z hz ⟨c2, rfl, u, rfl⟩
   have c3 := c1.trans c2
   rw [List.getElem?_map] at hz
   obtain ⟨pq, hq, rfl⟩ := Option.map_eq_some_iff.mp hz
   have hi : i < ts.length := by rw [ll]; exact (List.getElem?_eq_some_iff.mp hq).1
   have hl : ts[i]? = some ts[i] := List.getElem?_eq_getElem hi
   have lf0 : LfAt H' pq (lfT ts[i]) := by
    have := zacx lb i (by rw [List.length_map]; exact hi) (by omega)
    rw [List.getElem_map] at this
    rw [← (List.getElem?_eq_some_iff.mp hq).2]
    exact this.tu (Tu.same c3)
   have lf : LfS H' pq (lfT ts[i]) := ⟨lf0⟩
   obtain ⟨tx, et⟩ := zana lf0
   have tb := (ta ts[i] (List.getElem_mem hi)).ch c3
   clear lf0
   walk_at "rd"
   refine ⟨?_, _, rfl⟩
   rw [List.take_add_one, hl]
   simp only [List.map_append, Option.toList_some, List.map_cons, List.map_nil]
  ·rintro ys σ H' ⟨c2, rfl, _⟩
   rw [List.length_map, ← ll, List.take_length]
   intro D hD
   have c3 := (c1.trans c2).trans (Ch.new hD (.lst ((ts.map (·.w)).map V.int)))
   have g3 : upd H' D (.lst ((ts.map (·.w)).map V.int)) D = some (.lst ((ts.map (·.w)).map V.int)) := zaah
   have al : ∀ x ∈ ts.map (·.w), 1 ≤ x ∧ x ≤ 16 := fun x hx => by
    obtain ⟨t, ht, rfl⟩ := List.mem_map.mp hx
    exact (ok.t.ok t ht).w
   have q : ∀ H', Ch [] H H' → Q (.int (wW wo (ts.map (·.w)))) H' := q
   have ar : Arity wo (ts.map (·.w)).length := by rw [List.length_map]; exact ar
   generalize ts.map (·.w) = ws at g3 c3 al q ar ⊢
   generalize upd H' D (.lst (ws.map V.int)) = H2 at g3 c3 ⊢
   clear ta lb la ok
   have l0 : 0 < ws.length := by rcases ar with h | h | h <;> omega
   walk_at "rd"
   rename_i M hM _
   have hM := al M hM
   refine ite2 (fun h => absurd (show M = 0 by simpa using h) (by omega)) (fun _ => ?_)
   walk_at "rd"
   refine ite2 (fun h => absurd (by simpa using h) o4) (fun _ => ?_)
   walk_at "rd"
   refine ite2 (fun h => ?_) (fun h => ?_)
   ·have ew : wo = "join" := by simpa using h
    subst ew
    obtain ⟨x, y, rfl⟩ : ∃ x y, ws = [x, y] := by
     have : ws.length = 2 := by
      rcases ar with h | h | h
      ·exact absurd h.1 (by decide +kernel)
      ·exact absurd h.1 (by decide +kernel)
      ·exact h.2.2
     match ws, this with
     | [x, y], _ => exact ⟨x, y, rfl⟩
    obtain ⟨x1, x2⟩ := al x (by simp)
    obtain ⟨y1, y2⟩ := al y (by simp)
    have e : [x, y].sum * (if decide ([x, y].sum ≤ 16) = true then 1 else 0) = wW "join" [x, y] := by
     have ew : wW "join" [x, y] = if isW [x, y].sum = true then [x, y].sum else 0 := by
      unfold wW
      rw [if_neg (by decide +kernel), if_pos rfl]
     rw [ew, show [x, y].sum = x + y from by simp]
     unfold isW
     by_cases h : x + y ≤ 16
     ·simp [h]; omega
     ·simp [h]
    walk_at "rd"
    have q := q _ c3
    rw [← e] at q
    exact q
   ·have nj : wo ≠ "join" := fun e => h (by simpa using e)
    walk_at "rd"
    refine ite2 (fun h => ?_) (fun h => ?_)
    ·have ew : wo = "pick" := by simpa using h
     subst ew
     obtain ⟨x, y, z, rfl⟩ : ∃ x y z, ws = [x, y, z] := by
      have : ws.length = 3 := by
       rcases ar with h | h | h
       ·exact absurd h.1 (by decide +kernel)
       ·exact h.2
       ·exact absurd rfl h.2.1
      match ws, this with
      | [x, y, z], _ => exact ⟨x, y, z, rfl⟩
     have g3 : H2 D = some (.lst [.int x, .int y, .int z]) := g3
     obtain ⟨y1, y2⟩ := al y (by simp)
     have q := q _ c3
     have ew : wW "pick" [x, y, z] = if x = 1 ∧ y = z then y else 0 := by
      unfold wW
      rw [if_neg (by decide +kernel), if_neg (by decide +kernel), if_pos rfl]
      rfl
     rw [ew] at q
     walk_at "rd"
     refine ite2 (fun h1 => ?_) (fun h1 => ?_)
     ·walk_at "rd"
      have h1 : x = 1 := by simpa using h1
      have e : y * (if decide (V.int y = V.int z) = true then 1 else 0) = if x = 1 ∧ y = z then y else 0 := by
       by_cases h : y = z
       ·simp [h1, h]
       ·simp [h]
      rw [← e] at q
      exact q
     ·walk_at "rd"
      have h1 : x ≠ 1 := by simpa using h1
      have e : y * (if false = true then 1 else 0) = if x = 1 ∧ y = z then y else 0 := by
       simp [h1]
      rw [← e] at q
      exact q
    ·have np : wo ≠ "pick" := fun e => h (by simpa using e)
     by_cases hn : wo = "not"
     ·subst hn
      obtain ⟨x, rfl⟩ : ∃ x, ws = [x] := by
       have : ws.length = 1 := by
        rcases ar with h | h | h
        ·exact h.2
        ·exact absurd h.1 (by decide +kernel)
        ·exact absurd rfl h.1
       match ws, this with
       | [x], _ => exact ⟨x, rfl⟩
      have g3 : H2 D = some (.lst [.int x]) := g3
      have q := fun H' c => q H' (c3.trans c)
      have ew : wW "not" [x] = x := by
       unfold wW
       rw [if_pos rfl]
       rfl
      rw [ew] at q
      walk_at "rd"
      refine ite2 (fun h1 => absurd h1 (by simp)) (fun h1 => ?_)
      walk_at "rd"
      rename_i T hT
      exact q _ (Ch.new hT _)
     ·obtain ⟨x, y, rfl⟩ : ∃ x y, ws = [x, y] := by
       have : ws.length = 2 := by
        rcases ar with h | h | h
        ·exact absurd h.1 hn
        ·exact absurd h.1 np
        ·exact h.2.2
       match ws, this with
       | [x, y], _ => exact ⟨x, y, rfl⟩
      have g3 : H2 D = some (.lst [.int x, .int y]) := g3
      have q := fun H' c => q H' (c3.trans c)
      have ew : wW wo [x, y] = if x ≠ y then 0 else if wo = "less" ∨ wo = "same" then 1 else x := by
       unfold wW
       rw [if_neg hn, if_neg nj, if_neg np]
       rfl
      rw [ew] at q
      walk_at "rd"
      refine ite2 (fun h1 => ?_) (fun h1 => ?_)
      ·have h1 : x ≠ y := by simpa using h1
       rw [if_pos h1] at q
       walk_at "rd"
       exact q _ (Ch.refl _ _)
      ·have h1 : ¬ x ≠ y := by simpa using h1
       rw [if_neg h1] at q
       walk_at "rd"
       rename_i T hT
       by_cases h5 : wo = "less" ∨ wo = "same"
       ·have e : inV (V.str wo) [V.str (Str.ofString "less"), V.str (Str.ofString "same")] = true := by rcases h5 with rfl | rfl <;> decide +kernel
        rw [if_pos h5] at q
        rw [if_neg (by decide), e]
        walk_at "rd"
        exact q _ (Ch.new hT _)
       ·have e : inV (V.str wo) [V.str (Str.ofString "less"), V.str (Str.ofString "same")] = false := by
         have n1 : ¬ wo = "less" := fun z => h5 (.inl z)
         have n2 : ¬ wo = "same" := fun z => h5 (.inr z)
         simp [inV, eqV]
         exact ⟨fun z => n1 z.symm, fun z => n2 z.symm⟩
        rw [if_neg h5] at q
        rw [if_neg (by decide), e]
        walk_at "rd"
        exact q _ (Ch.new hT _)
end
end

section
structure LineQ (H : Hp) (rows : List Rw9) (Q : VK) : Prop where
 y : ∀ S, run HS rows S0 0 = .inr S → ∀ H', Ch [] H H' → Q .non H'
 n : ∀ i : Nat, run HS rows S0 0 = .inl i → ∀ H', Ch [] H H' → Q (.int (49 + (i : Int))) H'
section
variable {P : Program} {w : World} {K : PySem.W.Frag} {mg : Str → Option Value} {base : Heap} {f : Addr} {fd : FuncData} {k : Nat}
theorem zah0 : Nd "ask_sense" := by decide +kernel
theorem zajs : Nd "NoSense" := by decide +kernel
theorem av35 : AF (defScope (top 35)) ["_law_modules", "_law_line_here", "e"] := ⟨by decide +kernel⟩
theorem gl35 : AG (defScope (top 35)) ["ask_sense", "NoSense"] := ⟨by decide +kernel⟩
theorem zar6 : (defScope (top 35)).names.lookup (Str.ofString "e") = some NameKind.local := by decide +kernel
def spLine (CM : Addr) : Sp := fun vs H Q _ => ∃ (ml : Addr) (mps : List Addr) (rows : List Rw9), vs = [.ref ml] ∧ H ml = some (.lst (mps.map V.ref)) ∧ MsAt CM H mps rows ∧ RunS HS rows ∧ LineQ H rows Q
theorem scLine : FnScope ["_law_modules", "_law_line_here", "e"] ["_law_modules"] (defScope (top 35)) := ⟨rfl, rfl, rfl, by decide +kernel, rfl, by decide +kernel, by decide +kernel⟩
theorem zao0 {CM CT : Addr} (F : Fun K "_law_line" "_law_line" (top 35) f fd) (DXask_sense : DefOk P w K mg base (CXE P w) k "ask_sense" ["modules"] (spAsk CM CT)) (m_NoSense : mg "NoSense" = some (.ref CT)) (X_NoSense : XB K CT) (xa : XA K CT) (sub : XSub K CT CT) (hdT : PySem.W.hasDictIn K CT = true) (nL : NoAttr K CT "line") : FnOk P w K mg base CX0 (k + 1) f fd ["_law_modules"] (spLine CM) := by
 have nd := scLine.nd
 refine F.ok scLine (fun vs H Q E h => by obtain ⟨ml, mps, rows, rfl, _⟩ := h; rfl) (fun cdv A outer s H vs Q E hr h => ?_)
 obtain ⟨ml, mps, rows, rfl, hl, ms, rs, lq⟩ := h
 have hu := zac8 hr
 refine ⟨_, (Pr.h (zaad (zaa1 (i := 1) nd rfl (av35.l 1 rfl) zacv) (zabf (zaof (i := 2) (fun _ _ h => h) rfl rfl rfl nd rfl zar6 (gl35.g 1 rfl) m_NoSense X_NoSense (zamb (zama (zal9 (fun _ _ h => h) DXask_sense hr (gl35.g 0 rfl) (zaaa (qv av35 0 rfl) zaac zaag) zah0))) (fun ea => (zaaf (zaa1 (i := 1) nd rfl (av35.l 1 rfl) (zamh (qv av35 2 rfl))))) zajs) (zaaf (zaaj (qv av35 1 rfl)))))), ?_⟩
 (try dsimp only [cxOf])
 refine zab7 (fun σ H' => ∃ v u, σ = [some (.ref ml), some v, u] ∧ Box (Q v H')) ?_ ?_
 ·walk_at "rd"
  refine ⟨fun S e H' c => ⟨.non, none, rfl, ⟨lq.y S e H' c⟩⟩, fun i e d H' c hd => ?_⟩
  refine ⟨CT, rfl, X_NoSense, sub, fun ea hea => ?_⟩
  have lk : List.lookup (Str.ofString "line") [(Str.ofString "line", V.int (49 + (i : Int)))] = some (V.int (49 + (i : Int))) := rfl
  have q : Box (∀ H2, Ch [] H' H2 → Q (.int (49 + (i : Int))) H2) := ⟨fun H2 c2 => lq.n i e H2 (c.trans c2)⟩
  clear lq ms rs hl
  refine ⟨_, rfl, ea, CT, d, _, _, rfl, zaah, zaa6 hea hd, xa, hdT, nL, lk, ?_⟩
  exact ⟨_, _, rfl, ⟨q.h _ (Ch.new hea _)⟩⟩
 ·rintro σ H1 ⟨v, u, rfl, ⟨q⟩⟩
  walk_at "rd"
end
end

section
def dtL : Lf → Dt
 | .nm n => .seq [.sc (.inr "name"), .sc (.inr n)]
 | .of a b => .seq [.sc (.inr "of"), .sc (.inr a), .sc (.inr b)]
 | .val v w => .seq [.sc (.inr "value"), .sc (.inl v), .sc (.inl w)]
def dtE : Ex9 → Dt
 | .lf l => dtL l
 | .br w ls => .seq (.sc (.inr w) :: ls.map dtL)
 | .pt l lw wi => .seq [.sc (.inr "part"), dtL l, .sc (.inl lw), .sc (.inl wi)]
def dtR : Rw9 → Dt
 | .inn n w => .seq [.sc (.inr "in"), .sc (.inr n), .sc (.inl w)]
 | .keep n w f => .seq [.sc (.inr "keep"), .sc (.inr n), .sc (.inl w), .sc (.inl f)]
 | .lt n e => .seq [.sc (.inr "let"), .sc (.inr n), dtE e]
 | .use n m => .seq [.sc (.inr "use"), .sc (.inr n), .sc (.inr m), .seq []]
 | .nxt n e => .seq [.sc (.inr "next"), .sc (.inr n), dtE e]
 | .out n e => .seq [.sc (.inr "out"), .sc (.inr n), dtE e]
theorem dsc {tp : Bool} {n : Nat} {H : Hp} (k : Key) : DAt tp (n + 1) H (.sc k) (kV k) := .inl ⟨k, rfl, rfl⟩
theorem dtup {tp : Bool} {n : Nat} {H : Hp} {p : Addr} {ds : List Dt} {xs : List V} (h : H p = some (.tup xs)) (pr : Paired (DAt tp n H) ds xs) (l : xs.length ≤ 300) : DAt tp (n + 1) H (.seq ds) (.ref p) := .inr ⟨ds, p, xs, .tuple, rfl, rfl, fun _ => rfl, h, pr, l⟩
theorem LfAt.dat {tp : Bool} {n : Nat} {H : Hp} {p : Addr} {l : Lf} (h : LfAt H p l) : DAt tp (n + 2) H (dtL l) (.ref p) := by
 cases l with
 | nm a => exact dtup h (.cons (dsc (.inr _)) (.cons (dsc (.inr _)) .nil)) (by simp)
 | of a b => exact dtup h (.cons (dsc (.inr _)) (.cons (dsc (.inr _)) (.cons (dsc (.inr _)) .nil))) (by simp)
 | val v w => exact dtup h (.cons (dsc (.inr _)) (.cons (dsc (.inl _)) (.cons (dsc (.inl _)) .nil))) (by simp)
theorem zae0 {α β γ δ : Type} {R : α → β → Prop} {S : γ → δ → Prop} {f : α → γ} {g : β → δ} (h : ∀ a b, R a b → S (f a) (g b)) : ∀ {xs : List α} {ys : List β}, Paired R xs ys → Paired S (xs.map f) (ys.map g)
 | _, _, .nil => .nil
 | _, _, .cons a t => .cons (h _ _ a) (zae0 h t)
theorem ExAt.dat {tp : Bool} {n : Nat} {H : Hp} {p : Addr} {e : Ex9} (h : ExAt H p e) : DAt tp (n + 3) H (dtE e) (.ref p) := by
 cases e with
 | lf l => exact LfAt.dat (n := n + 1) h
 | br w ls =>
  obtain ⟨ps, a, b, o, ar⟩ := h
  refine dtup a (.cons (dsc (.inr _)) (zae0 (R := fun l q => LfAt H q l) (f := dtL) (g := V.ref) (fun _ _ h => h.dat) b)) ?_
  have := b.length
  have : ls.length ≤ 3 := by rcases ar with h | h | h <;> omega
  simp; omega
 | pt l lw wi => obtain ⟨q, a, b⟩ := h; exact dtup a (.cons (dsc (.inr _)) (.cons (LfAt.dat b) (.cons (dsc (.inl _)) (.cons (dsc (.inl _)) .nil)))) (by simp)
theorem RwAt.dat {tp : Bool} {n : Nat} {H : Hp} {p : Addr} {r : Rw9} (h : RwAt H p r) : DAt tp (n + 4) H (dtR r) (.ref p) := by
 cases r with
 | inn a w => exact dtup h (.cons (dsc (.inr _)) (.cons (dsc (.inr _)) (.cons (dsc (.inl _)) .nil))) (by simp)
 | keep a w f => exact dtup h.1 (.cons (dsc (.inr _)) (.cons (dsc (.inr _)) (.cons (dsc (.inl _)) (.cons (dsc (.inl _)) .nil)))) (by simp)
 | lt a e => obtain ⟨q, a, b⟩ := h; exact dtup a (.cons (dsc (.inr _)) (.cons (dsc (.inr _)) (.cons b.h.dat .nil))) (by simp)
 | use a m => obtain ⟨q, a, b⟩ := h; exact dtup a (.cons (dsc (.inr _)) (.cons (dsc (.inr _)) (.cons (dsc (.inr _)) (.cons (dtup b .nil (by simp)) .nil)))) (by simp)
 | nxt a e => obtain ⟨q, a, b⟩ := h; exact dtup a (.cons (dsc (.inr _)) (.cons (dsc (.inr _)) (.cons b.h.dat .nil))) (by simp)
 | out a e => obtain ⟨q, a, b⟩ := h; exact dtup a (.cons (dsc (.inr _)) (.cons (dsc (.inr _)) (.cons b.h.dat .nil))) (by simp)
def XC : Ex9 → Prop
 | .br w ls => Other w ∧ Arity w ls.length
 | _ => True
def RC : Rw9 → Prop
 | .keep _ w _ => w ≤ 10000
 | .lt _ e => XC e ∧ XOk e
 | .nxt _ e => XC e ∧ XOk e
 | .out _ e => XC e ∧ XOk e
 | _ => True
theorem ExAt.xc {H : Hp} {p : Addr} {e : Ex9} (h : ExAt H p e) : XC e := by
 cases e with
 | lf l => trivial
 | br w ls => obtain ⟨ps, a, b, c⟩ := h; exact c
 | pt l lw wi => trivial
theorem RwAt.rc {H : Hp} {p : Addr} {r : Rw9} (h : RwAt H p r) : RC r := by
 cases r with
 | inn a w => trivial
 | keep a w f => exact h.2
 | lt a e => obtain ⟨q, a, b⟩ := h; exact ⟨b.h.xc, b.v⟩
 | use a m => trivial
 | nxt a e => obtain ⟨q, a, b⟩ := h; exact ⟨b.h.xc, b.v⟩
 | out a e => obtain ⟨q, a, b⟩ := h; exact ⟨b.h.xc, b.v⟩
theorem zabr {n : Nat} {H : Hp} {k : Key} {x : V} (h : DAt true n H (.sc k) x) : x = kV k := by
 cases n with
 | zero => exact h.elim
 | succ n =>
  rcases h with ⟨k', e, rfl⟩ | ⟨ds, p, xs, kd, e, _⟩
  ·cases e; rfl
  ·cases e
theorem zacj {n : Nat} {H : Hp} {ds : List Dt} {v : V} (h : DAt true n H (.seq ds) v) : ∃ m p xs, n = m + 1 ∧ v = .ref p ∧ H p = some (.tup xs) ∧ Paired (DAt true m H) ds xs := by
 cases n with
 | zero => exact h.elim
 | succ n =>
  rcases h with ⟨k', e, _⟩ | ⟨ds', p, xs, kd, e, rfl, t, s, pr, _⟩
  ·cases e
  ·cases e
   cases t rfl
   exact ⟨n, p, xs, rfl, rfl, s, pr⟩
theorem zald {n : Nat} {H : Hp} {l : Lf} {v : V} (h : DAt true n H (dtL l) v) : ∃ p, v = .ref p ∧ LfAt H p l := by
 cases l with
 | nm a =>
  obtain ⟨m, p, xs, rfl, rfl, hp, pr⟩ := zacj h
  cases pr with | cons a1 t => cases t with | cons a2 t => cases t; rw [zabr a1, zabr a2] at hp; exact ⟨p, rfl, hp⟩
 | of a b =>
  obtain ⟨m, p, xs, rfl, rfl, hp, pr⟩ := zacj h
  cases pr with | cons a1 t => cases t with | cons a2 t => cases t with | cons a3 t => cases t; rw [zabr a1, zabr a2, zabr a3] at hp; exact ⟨p, rfl, hp⟩
 | val a b =>
  obtain ⟨m, p, xs, rfl, rfl, hp, pr⟩ := zacj h
  cases pr with | cons a1 t => cases t with | cons a2 t => cases t with | cons a3 t => cases t; rw [zabr a1, zabr a2, zabr a3] at hp; exact ⟨p, rfl, hp⟩
theorem zafy {α : Type} {R : α → Addr → Prop} {S : Dt → V → Prop} {f : α → Dt} (h : ∀ a v, S (f a) v → ∃ p, v = .ref p ∧ R a p) : ∀ {xs : List α} {vs : List V}, Paired S (xs.map f) vs → ∃ ps : List Addr, vs = ps.map V.ref ∧ Paired R xs ps
 | [], _, .nil => ⟨[], rfl, .nil⟩
 | x :: xs, _, .cons a t => by
  obtain ⟨p, rfl, r⟩ := h _ _ a
  obtain ⟨ps, rfl, rs⟩ := zafy h t
  exact ⟨p :: ps, rfl, .cons r rs⟩
theorem zale {n : Nat} {H : Hp} {e : Ex9} {v : V} (xc : XC e) (h : DAt true n H (dtE e) v) : ∃ p, v = .ref p ∧ ExAt H p e := by
 cases e with
 | lf l => exact zald h
 | br w ls =>
  obtain ⟨m, p, xs, rfl, rfl, hp, pr⟩ := zacj h
  cases pr with
  | cons a1 t =>
   obtain ⟨ps, rfl, q⟩ := zafy (fun _ _ => zald) t
   rw [zabr a1] at hp
   exact ⟨p, rfl, ps, hp, q, xc⟩
 | pt l lw wi =>
  obtain ⟨m, p, xs, rfl, rfl, hp, pr⟩ := zacj h
  cases pr with | cons a1 t => cases t with | cons a2 t => cases t with | cons a3 t => cases t with | cons a4 t => cases t; obtain ⟨q, rfl, hq⟩ := zald a2; rw [zabr a1, zabr a3, zabr a4] at hp; exact ⟨p, rfl, q, hp, hq⟩
theorem zaq6 {n : Nat} {H : Hp} {r : Rw9} {v : V} (rc : RC r) (h : DAt true n H (dtR r) v) : ∃ p, v = .ref p ∧ RwAt H p r := by
 cases r with
 | inn a w =>
  obtain ⟨m, p, xs, rfl, rfl, hp, pr⟩ := zacj h
  cases pr with | cons a1 t => cases t with | cons a2 t => cases t with | cons a3 t => cases t; rw [zabr a1, zabr a2, zabr a3] at hp; exact ⟨p, rfl, hp⟩
 | keep a w f =>
  obtain ⟨m, p, xs, rfl, rfl, hp, pr⟩ := zacj h
  cases pr with | cons a1 t => cases t with | cons a2 t => cases t with | cons a3 t => cases t with | cons a4 t => cases t; rw [zabr a1, zabr a2, zabr a3, zabr a4] at hp; exact ⟨p, rfl, hp, rc⟩
 | use a b =>
  obtain ⟨m, p, xs, rfl, rfl, hp, pr⟩ := zacj h
  cases pr with | cons a1 t => cases t with | cons a2 t => cases t with | cons a3 t => cases t with | cons a4 t =>
   cases t
   obtain ⟨_, q, ys, _, rfl, hq, pq⟩ := zacj a4
   cases pq
   rw [zabr a1, zabr a2, zabr a3] at hp
   exact ⟨p, rfl, q, hp, hq⟩
 | lt a e =>
  obtain ⟨m, p, xs, rfl, rfl, hp, pr⟩ := zacj h
  cases pr with | cons a1 t => cases t with | cons a2 t => cases t with | cons a3 t => cases t; obtain ⟨q, rfl, hq⟩ := zale rc.1 a3; rw [zabr a1, zabr a2] at hp; exact ⟨p, rfl, q, hp, hq, rc.2⟩
 | nxt a e =>
  obtain ⟨m, p, xs, rfl, rfl, hp, pr⟩ := zacj h
  cases pr with | cons a1 t => cases t with | cons a2 t => cases t with | cons a3 t => cases t; obtain ⟨q, rfl, hq⟩ := zale rc.1 a3; rw [zabr a1, zabr a2] at hp; exact ⟨p, rfl, q, hp, hq, rc.2⟩
 | out a e =>
  obtain ⟨m, p, xs, rfl, rfl, hp, pr⟩ := zacj h
  cases pr with | cons a1 t => cases t with | cons a2 t => cases t with | cons a3 t => cases t; obtain ⟨q, rfl, hq⟩ := zale rc.1 a3; rw [zabr a1, zabr a2] at hp; exact ⟨p, rfl, q, hp, hq, rc.2⟩
theorem zafz {H : Hp} {S : Dt → V → Prop} : ∀ {rows : List Rw9} {vs : List V}, (∀ r ∈ rows, ∀ v, S (dtR r) v → ∃ p, v = .ref p ∧ RwAt H p r) → Paired S (rows.map dtR) vs → ∃ ps : List Addr, vs = ps.map V.ref ∧ Paired (fun r p => RwAt H p r) rows ps
 | [], _, _, .nil => ⟨[], rfl, .nil⟩
 | x :: xs, _, h, .cons a t => by
  obtain ⟨p, rfl, r⟩ := h x (by simp) _ a
  obtain ⟨ps, rfl, rs⟩ := zafz (fun r hr => h r (List.mem_cons_of_mem _ hr)) t
  exact ⟨p :: ps, rfl, .cons r rs⟩
theorem zagk {α β : Type} {R : α → β → Prop} {p : α → Prop} (h : ∀ a b, R a b → p a) : ∀ {xs : List α} {ys : List β}, Paired R xs ys → ∀ x ∈ xs, p x
 | _, _, .nil, x, hx => by simp at hx
 | _, _, .cons a t, x, hx => by rcases List.mem_cons.mp hx with rfl | hx; exact h _ _ a; exact zagk h t x hx
theorem zag9 {H : Hp} {L : Addr} {rows : List Rw9} {ps : List Addr} (h : H L = some (.lst (ps.map V.ref))) (pr : Paired (fun r p => RwAt H p r) rows ps) (l : rows.length ≤ 60) : FD 5 H (.seq (rows.map dtR)) (.ref L) :=
 ⟨.inr ⟨_, L, _, .list, rfl, rfl, (fun z => by cases z), h, zae0 (R := fun r p => RwAt H p r) (f := dtR) (g := V.ref) (fun _ _ h => h.dat) pr, by rw [List.length_map, ← pr.length]; omega⟩⟩
theorem zaha {CM : Addr} {H H0 : Hp} {x dx : Addr} {nm : Str} {rows : List Rw9} {ps : List Addr} {rp : V} (pr : Paired (fun r p => RwAt H0 p r) rows ps) (l : rows.length ≤ 60) (hx : H x = some (.ins CM dx (fldsM nm rp))) (d : DAt true 5 H (.seq (rows.map dtR)) rp) : MoAt CM H x nm rows := by
 have rc := zagk (R := fun r p => RwAt H0 p r) (p := RC) (fun _ _ h => h.rc) pr
 obtain ⟨m, p, xs, _, rfl, hp, q⟩ := zacj d
 obtain ⟨qs, rfl, q2⟩ := zafz (H := H) (fun r hr v => zaq6 (rc r hr)) q
 exact ⟨dx, p, qs, hx, hp, q2, l⟩
end

section
structure HpAt (CM : Addr) (H : Hp) (mps : List Addr) : Prop where
 l : mps.length = 16
 at_ : ∀ (i : Nat) (p : Addr), mps[i]? = some p → MoAt CM H p (hname i) (hrow i)
theorem HpAt.ch {CM : Addr} {H H' : Hp} {mps : List Addr} (h : HpAt CM H mps) (c : Ch [] H H') : HpAt CM H' mps := ⟨h.l, fun i p e => (h.at_ i p e).ch c⟩
theorem HpAt.ms {CM : Addr} {H : Hp} {mps : List Addr} {p : Addr} {rows : List Rw9} (h : HpAt CM H mps) (m : MoAt CM H p "top" rows) : MsAt CM H (mps ++ [p]) rows := by
 refine ⟨by rw [List.length_append, h.l]; rfl, fun i q e => ?_⟩
 by_cases hi : i < 16
 ·rw [List.getElem?_append_left (by rw [h.l]; exact hi)] at e
  unfold mrows
  rw [if_pos hi]
  exact h.at_ i q e
 ·have : i < (mps ++ [p]).length := (List.getElem?_eq_some_iff.mp e).1
  rw [List.length_append, h.l, List.length_singleton] at this
  have hi2 : i = 16 := by omega
  subst hi2
  rw [List.getElem?_append_right (by rw [h.l]; exact Nat.le_refl _), h.l] at e
  cases Option.some.inj e
  exact m
theorem Ch.inst9 {H : Hp} {x dx C : Addr} (hx : H x = none) (hd : H dx = none) (n : dx ≠ x) : Ch [] H (upd (upd H dx (.own x)) x (.ins C dx [])) := (Ch.new hd _).trans (Ch.new (by rw [zaav n.symm]; exact hx) _)
def rA (o : Out9) : List Rw9 := (tsO o).flatMap rowsT ++ [.out "told" (exO9 o), .lt "found" (exO9 o), .out "again" (.lf (.nm "found"))]
def rB (o : Out9) (kw : Int) (e2 : Ex9) : List Rw9 := (tsO o).flatMap rowsT ++ [.keep "cell" kw 0, .nxt "cell" (exO9 o), .out "told" e2]
theorem zaq7 {o : Out9} (h : nO o ≤ 6) : (rA o).length ≤ 60 := by have h : ((tsO o).flatMap rowsT).length ≤ 6 := h; unfold rA; rw [List.length_append]; simp; simp at h; omega
theorem zanb {o : Out9} {kw : Int} {e2 : Ex9} (h : nO o ≤ 6) : (rB o kw e2).length ≤ 60 := by have h : ((tsO o).flatMap rowsT).length ≤ 6 := h; unfold rB; rw [List.length_append]; simp; simp at h; omega
theorem zaf0 {H : Hp} {p : Addr} {ps qs : List Addr} : upd H p (.lst (ps.map V.ref ++ qs.map V.ref)) p = some (.lst ((ps ++ qs).map V.ref)) := by rw [zaah, List.map_append]
theorem zalf {H : Hp} {p r : Addr} {a : Str} {v : Int} (h : H p = some (.tup [.str a, .int v])) (g : H r = some (.tup [.str a, .int v])) : Eqv 2 H (.ref p) (.ref r) := .inr ⟨p, r, _, _, .tuple, rfl, rfl, h, g, .cons (.inl ⟨.inr a, rfl, rfl⟩) (.cons (.inl ⟨.inl v, rfl, rfl⟩) .nil), by simp⟩
section
variable {P : Program} {w : World} {K : PySem.W.Frag} {mg : Str → Option Value} {base : Heap} {f : Addr} {fd : FuncData} {k : Nat}
theorem zaee : Nd "Module" := by decide +kernel
theorem zadt : Nd "_law_line" := by decide +kernel
theorem zamn : Nd "faces" := by decide +kernel
theorem av36 : AF (defScope (top 36)) ["_law_helpers", "_law_rows", "_law_expr", "_law_wide_here", "_law_m", "_law_lines", "_law_uses", "_law_modules", "_law_found", "_law_held"] := ⟨by decide +kernel⟩
theorem gl36 : AG (defScope (top 36)) ["sum", "Module", "_law_line", "_law_same", "len", "faces"] := ⟨by decide +kernel⟩
def zahb : Scope := { kind := PySem.ScopeKind.function, names := [ (PySem.Str.ofString ".0", PySem.NameKind.local), (PySem.Str.ofString "_law_module", PySem.NameKind.local), (PySem.Str.ofString "len", PySem.NameKind.globalImplicit)], isGenerator := false, isCoroutine := false, more := [] : PySem.Scope }
theorem zalg : CompOk zahb (defScope (top 36)) (["_law_module"] : List Str) (["_law_helpers", "_law_rows", "_law_expr", "_law_wide_here", "_law_m", "_law_lines", "_law_uses", "_law_modules", "_law_found", "_law_held"] : List Str) [] (["_law_module"] : List Str) := compOk rfl (by decide +kernel) (by decide +kernel) (by decide +kernel) (by decide +kernel) rfl (by decide +kernel)
theorem zalh : AK (relab zahb (defScope (top 36))) ["_law_module"] := ⟨by decide +kernel⟩
theorem zao1 : AG (relab zahb (defScope (top 36))) ["len"] := ⟨by decide +kernel⟩
theorem zao2 : AV (relab zahb (defScope (top 36))) ["_law_module"] := ⟨by decide +kernel⟩
def spAsked (CM : Addr) : Sp := fun vs H Q _ => ∃ (hl rl pe : Addr) (mps : List Addr) (o : Out9) (m : Int), vs = [.ref hl, .ref rl, .ref pe, .int (oW o), .int m] ∧ 0 ≤ m ∧ H hl = some (.lst (mps.map V.ref)) ∧ HpAt CM H mps ∧ ExR H pe rl o ∧ ∀ H', Ch [] H H' → Q (.bl true) H'
theorem scAsked : FnScope ["_law_helpers", "_law_rows", "_law_expr", "_law_wide_here", "_law_m", "_law_lines", "_law_uses", "_law_modules", "_law_found", "_law_held"] ["_law_helpers", "_law_rows", "_law_expr", "_law_wide_here", "_law_m"] (defScope (top 36)) := ⟨rfl, rfl, rfl, by decide +kernel, rfl, by decide +kernel, by decide +kernel⟩
theorem zamo {CM : Addr} (F : Fun K "_law_asked" "_law_asked" (top 36) f fd) (cl : Cls K CM) (nR : NoAttr K CM "rows") (MkModule : MakeOk P w K mg base CX0 k CM "Module" ["self", "name", "rows"] (spMo CM 5)) (D_law_line : DefOk P w K mg base CX0 (k + 1) "_law_line" ["_law_modules"] (spLine CM)) (D_law_same : DefOk P w K mg base CX0 (k + 1) "_law_same" ["_law_found", "_law_due"] (spSame 3)) (Dfaces : DefOk P w K mg base CX0 (k + 1) "faces" ["modules"] (spFac CM)) (z_len : mg "len" = none) (z_sum : mg "sum" = none) : FnOk P w K mg base CX0 (k + 2) f fd ["_law_helpers", "_law_rows", "_law_expr", "_law_wide_here", "_law_m"] (spAsked CM) := by
 have nd := scAsked.nd
 refine F.ok scAsked (fun vs H Q E h => by obtain ⟨hl, rl, pe, mps, o, m, rfl, _⟩ := h; rfl) (fun cdv A outer s H vs Q E hr h => ?_)
 obtain ⟨hl, rl, pe, mps, o, m, rfl, m0, eh, hp, ex, q⟩ := h
 have hu := zac8 hr
 have hrm := hr
 refine ⟨_, (Pr.h (zabf (zaa1 (i := 5) nd rfl (av36.l 5 rfl) (zaai (zadd rfl) (gl36.g 0 rfl) z_sum zafu (zaaa (zacb rfl zalg (zact (qv av36 0 rfl)) (fun _ _ _ _ _ => (zaa2 (i := 0) zalg.nd rfl (Or.inl (zalh.k 0 rfl)) (Or.inr (zalh.k 0 rfl)))) (fun _ _ _ _ _ => zab4) (fun _ _ _ _ _ => (zaau zabo (zaai (zags K rfl) (zao1.g 0 rfl) z_len PySem.boot_len (zaaa (zal5 K rfl (qw zao2 0 rfl) rfl) zaac zabx) zabp zabq) zaab))) zaac zaby) zafv zafw)) (zabf (zaa1 (i := 6) nd rfl (av36.l 6 rfl) (zaau zad1 (qv av36 1 rfl) (zaa5 (zaaa (zaa4 (zaaa zaap (zaaa zaap (zaaa (qv av36 2 rfl) zaac zaag) zaae) zaae)) (zaaa (zaa4 (zaaa zaap (zaaa zaap (zaaa (qv av36 2 rfl) zaac zaag) zaae) zaae)) (zaaa (zaa4 (zaaa zaap (zaaa zaap (zaaa (zaa4 (zaaa zaap (zaaa zaap zaac zaae) zaae)) zaac zaa8) zaae) zaae)) zaac zaa8) zaa8) zaa8)))) (zabf (zaa1 (i := 7) nd rfl (av36.l 7 rfl) (zaau zad1 (qv av36 0 rfl) (zaa5 (zaaa (zadj MkModule hrm (gl36.g 1 rfl) pass0 (zaaa zaap (zaaa (qv av36 6 rfl) zaac zaag) zaae) zaee) zaac zab0)))) (zaad (zaa1 (i := 8) nd rfl (av36.l 8 rfl) (zaar D_law_line hr (gl36.g 2 rfl) pass0 (zaaa (qv av36 7 rfl) zaac zaag) zadt)) (zaad (zaaw (zaaq zabg (qv av36 3 rfl) zaab (nomark _)) (zaad (zaaw (zacd (zaba (zaar D_law_same hr (gl36.g 3 rfl) pass0 (zaaa (qv av36 8 rfl) (zaaa (zaau zabo (zaau zabo (qv av36 5 rfl) zaab) (zaai zaay (gl36.g 4 rfl) z_len PySem.boot_len (zaaa (qv av36 1 rfl) zaac zaag) zabp zabq)) zaac zaa7) zaag) zabi))) (zaaf (zaaj zabm)) zaak) (zaad (zaa1 (i := 9) nd rfl (av36.l 9 rfl) (zaau zad1 (qv av36 1 rfl) (zaa5 (zaaa (zaa4 (zaaa zaap (zaaa zaap (zaaa (zaau zabo zaab (zaau zabv (qv av36 4 rfl) zaab)) (zaaa zaab zaac zaae) zaa7) zaae) zaae)) (zaaa (zaa4 (zaaa zaap (zaaa zaap (zaaa (qv av36 2 rfl) zaac zaag) zaae) zaae)) (zaaa (zaa4 (zaaa zaap (zaaa zaap (zaaa (qv av36 2 rfl) zaac zaag) zaae) zaae)) zaac zaa8) zaa8) zaa8)))) (zaaf (zaaj (zaar D_law_same hr (gl36.g 3 rfl) pass0 (zaaa (zaar D_law_line hr (gl36.g 2 rfl) pass0 (zaaa (zaau zad1 (qv av36 0 rfl) (zaa5 (zaaa (zadj MkModule hrm (gl36.g 1 rfl) pass0 (zaaa zaap (zaaa (qv av36 9 rfl) zaac zaag) zaae) zaee) zaac zab0))) zaac zaa7) zadt) (zaaa (zaau zabo (zaau zabo (qv av36 5 rfl) zaab) (zaai zaay (gl36.g 4 rfl) z_len PySem.boot_len (zaaa (qv av36 1 rfl) zaac zaag) zabp zabq)) zaac zaa7) zab0) zabi))))) zaak) (zaad (zaaw (zab5 (zab8 (zaaq zanl (qv av36 8 rfl) zacv (nomark _)) (zabz (zacd (zaba (zaar D_law_same hr (gl36.g 3 rfl) pass0 (zaaa (zaal zaat (zaar Dfaces hr (gl36.g 5 rfl) pass0 (zaaa (qv av36 7 rfl) zaac zaag) zamn) zaab (fun _ _ => rfl)) (zaaa (zaa5 (zaaa (zaa4 (zaaa zaap (zaaa (qv av36 3 rfl) zaac zaag) zaae)) (zaaa (zaa4 (zaaa zaap (zaaa (qv av36 3 rfl) zaac zaag) zaae)) zaac zaa8) zaa8)) zaac zacr) zaas) zabi)))))) (zaaf (zaaj zabm)) zaak) (zaad (zaa1 (i := 9) nd rfl (av36.l 9 rfl) (zaau zad1 (qv av36 1 rfl) (zaa5 (zaaa (zaa4 (zaaa zaap (zaaa zaap (zaaa (zaau zabo zaab (zaau zabv (qv av36 4 rfl) zaab)) (zaaa zaab zaac zaae) zaa7) zaae) zaae)) (zaaa (zaa4 (zaaa zaap (zaaa zaap (zaaa (qv av36 2 rfl) zaac zaag) zaae) zaae)) (zaaa (zaa4 (zaaa zaap (zaaa zaap (zaaa (zaa4 (zaaa zaap (zaaa zaap zaac zaae) zaae)) zaac zaa8) zaae) zaae)) zaac zaa8) zaa8) zaa8)))) (zaad (zaa1 (i := 8) nd rfl (av36.l 8 rfl) (zaar D_law_line hr (gl36.g 2 rfl) pass0 (zaaa (zaau zad1 (qv av36 0 rfl) (zaa5 (zaaa (zadj MkModule hrm (gl36.g 1 rfl) pass0 (zaaa zaap (zaaa (qv av36 9 rfl) zaac zaag) zaae) zaee) zaac zab0))) zaac zaa7) zadt)) (zaad (zaaw (zaaq zabg (qv av36 3 rfl) (zaau zabo zaab (zaau zabv (qv av36 4 rfl) zaab)) (nomark _)) (zaaf (zaaj (zabd zae1 (qv av36 8 rfl) zacv (nomark _)))) zaak) (zaaf (zaaj (zaar D_law_same hr (gl36.g 3 rfl) pass0 (zaaa (qv av36 8 rfl) (zaaa (zaau zabo (zaau zabo (qv av36 5 rfl) zaab) (zaai zaay (gl36.g 4 rfl) z_len PySem.boot_len (zaaa (qv av36 1 rfl) zaac zaag) zabp zabq)) zaac zaa7) zaag) zabi))))))))))))), ?_⟩
 (try dsimp only [cxOf])
 refine zab7 (fun σ H' => σ = [some (.ref hl), some (.ref rl), some (.ref pe), some (.int (oW o)), some (.int m), some (.int 48), none, none, none, none] ∧ Box (Ch [] H H')) ?_ ?_
 ·walk_at "rd"
  refine zad9 (mps.map V.ref) (fun i ys σ H' => H' = H ∧ ys = (List.replicate i (3 : Int)).map V.int ∧ ∃ u, σ = [u]) (by rw [sizeLine_eq, List.length_map, hp.l]; decide) ⟨rfl, rfl, _, rfl⟩ ?_ ?_ ?_
  ·rintro i ys σ H' hi ⟨rfl, rfl, _⟩
   exact ⟨by simp, SqL.of eh⟩
  ·rintro i ys σ H' z hz ⟨rfl, rfl, u, rfl⟩
   rw [List.getElem?_map] at hz
   obtain ⟨p, hp', rfl⟩ := Option.map_eq_some_iff.mp hz
   obtain ⟨dm, rp, pss, e1, e2, p3, _⟩ := (hp.at_ i p hp').ex
   have l1 : pss.length = 1 := p3.length.symm
   obtain ⟨q1, rfl⟩ : ∃ q1, pss = [q1] := by
    match pss, l1 with
    | [q1], _ => exact ⟨q1, rfl⟩
   have fr : List.lookup (Str.ofString "rows") (fldsM (hname i) (.ref rp)) = some (.ref rp) := rfl
   walk_at "rd"
   exact ⟨by rw [List.replicate_succ', List.map_append]; rfl, _, rfl⟩
  ·rintro ys σ H' ⟨rfl, rfl, _⟩
   intro D hD
   rw [List.length_map, hp.l]
   walk_at "rd"
   exact ⟨Ch.new hD _⟩
 rintro σ H1 ⟨rfl, ⟨c1⟩⟩
 have bh : Box (HpAt CM H1 mps ∧ H1 hl = some (.lst (mps.map V.ref)) ∧ (∃ ps : List Addr, H1 rl = some (.lst (ps.map V.ref)) ∧ Paired (fun r p => RwAt H1 p r) ((tsO o).flatMap rowsT) ps) ∧ ExS H1 pe (exO9 o)) := by
  obtain ⟨ps, a, b⟩ := ex.r
  exact ⟨hp.ch c1, c1.get eh (by simp), ⟨ps, c1.get a (by simp), zaax (fun _ _ => RwAt.tu (Tu.same c1)) b⟩, ⟨ex.e.tu (Tu.same c1), ex.x⟩⟩
 obtain ⟨hp1, eh1, ⟨ps, er, pr⟩, xs⟩ := bh
 clear eh hp
 refine zab7 (fun σ H' => Box (∃ ul us, σ = [some (.ref hl), some (.ref rl), some (.ref pe), some (.int (oW o)), some (.int m), some (.int 48), some (.ref ul), none, none, none] ∧ Ch [] H1 H' ∧ H' ul = some (.lst (us.map V.ref)) ∧ Paired (fun r p => RwAt H' p r) (rA o) us)) ?_ ?_
 ·have lp : ps.length ≤ 6 := by rw [← pr.length]; exact ex.n
  walk_at "rd"
  rename_i A1 h1 A2 h2 A3 h3 A4 h4 A5 h5 ul hul
  have c4 := (((Ch.new (W := []) h1 (.tup [.str "out", .str "told", .ref pe])).trans (Ch.new h2 (.tup [.str "let", .str "found", .ref pe]))).trans (Ch.new h3 (.tup [.str "name", .str "found"]))).trans (Ch.new h4 (.tup [.str "out", .str "again", .ref A3]))
  have c5 := (c4.trans (Ch.new h5 (.lst [.ref A1, .ref A2, .ref A4]))).trans (Ch.new hul (.lst (ps.map V.ref ++ [.ref A1, .ref A2, .ref A4])))
  have c6 := (Ch.new (W := []) h5 (.lst [.ref A1, .ref A2, .ref A4])).trans (Ch.new hul (.lst (ps.map V.ref ++ [.ref A1, .ref A2, .ref A4])))
  have xs5 := xs.tu (Tu.same c5)
  exact ⟨ul, ps ++ [A1, A2, A4], rfl, c5, by rw [zaah, List.map_append]; rfl, zac6 (zaax (fun _ _ => RwAt.tu (Tu.same c5)) pr) (.cons ⟨pe, c6.get (zaa6 h4 (zaa6 h3 (zaa6 h2 zaah))) (by simp), xs5⟩ (.cons ⟨pe, c6.get (zaa6 h4 (zaa6 h3 zaah)) (by simp), xs5⟩ (.cons ⟨A3, c6.get zaah (by simp), c6.get (zaa6 h4 zaah) (by simp), trivial⟩ .nil)))⟩
 rintro σ H2 ⟨ul, us, rfl, c2, eu, pu⟩
 have bh2 : Box (HpAt CM H2 mps ∧ H2 hl = some (.lst (mps.map V.ref))) := ⟨hp1.ch c2, c2.get eh1 (by simp)⟩
 refine zab7 (fun σ H' => Box (∃ ml mp, σ = [some (.ref hl), some (.ref rl), some (.ref pe), some (.int (oW o)), some (.int m), some (.int 48), some (.ref ul), some (.ref ml), none, none] ∧ Ch [] H2 H' ∧ H' ml = some (.lst ((mps ++ [mp]).map V.ref)) ∧ MsAt CM H' (mps ++ [mp]) (rA o))) ?_ ?_
 ·obtain ⟨hp2, eh2⟩ := bh2
  have lm := hp2.l
  have ln := zaq7 ex.n
  walk_at "rd"
  rename_i x dx hx hdx ndx
  refine ⟨⟨DAt.ch (Ch.inst9 hx hdx ndx) (zag9 eu pu ln).h⟩, fun rp H3 c3 x3 d3 => ⟨rfl, ?_⟩⟩
  have cM := Ch.made hx hdx ndx c3
  have mo := zaha pu ln x3 d3
  have hp3 := hp2.ch cM
  have eh3 := cM.get eh2 (by simp)
  have lm : (mps.map V.ref).length ≤ 16 := by rw [List.length_map, lm]; exact Nat.le_refl _
  clear c3 x3 d3 hx hdx eu pu hp2 eh2 er pr xs eh1 hp1
  walk_at "rd"
  rename_i L1 h1 L2 h2
  have c4 := (Ch.new (W := []) h1 (.lst [.ref x])).trans (Ch.new h2 (.lst (mps.map V.ref ++ [.ref x])))
  exact ⟨L2, x, rfl, cM.trans c4, by rw [zaah, List.map_append]; rfl, (hp3.ms mo).ch c4⟩
 rintro σ H3 ⟨ml, mp, rfl, c3, em, ms⟩
 have lp : ps.length = nO o := pr.length.symm
 have bh3 : Box (HpAt CM H3 mps ∧ H3 hl = some (.lst (mps.map V.ref)) ∧ H3 rl = some (.lst (ps.map V.ref)) ∧ Paired (fun r p => RwAt H3 p r) ((tsO o).flatMap rowsT) ps ∧ ExS H3 pe (exO9 o) ∧ Ch [] H H3) := ⟨hp1.ch (c2.trans c3), (c2.trans c3).get eh1 (by simp), (c2.trans c3).get er (by simp), zaax (fun _ _ => RwAt.tu (Tu.same (c2.trans c3))) pr, xs.tu (Tu.same (c2.trans c3)), c1.trans (c2.trans c3)⟩
 clear hp1 eh1 er pr xs c1 c2 c3 bh2 eu pu
 walk_at "rd"
 by_cases h0 : oW o = 0
 ·have ra : run HS (rA o) S0 0 = .inl (nO o) := (zaqz ex.k).1 h0
  refine ⟨⟨fun S e => by rw [ra] at e; cases e⟩, ⟨(fun S e => by rw [ra] at e; cases e), fun i e H4 c4 => ?_⟩⟩
  rw [ra] at e
  cases e
  have bh4 : Box (HpAt CM H4 mps ∧ H4 hl = some (.lst (mps.map V.ref)) ∧ H4 rl = some (.lst (ps.map V.ref)) ∧ Paired (fun r p => RwAt H4 p r) ((tsO o).flatMap rowsT) ps ∧ ExS H4 pe (exO9 o) ∧ Ch [] H H4) := by
   obtain ⟨a, b, c, d, e, f⟩ := bh3
   exact ⟨a.ch c4, c4.get b (by simp), c4.get c (by simp), zaax (fun _ _ => RwAt.tu (Tu.same c4)) d, e.tu (Tu.same c4), f.trans c4⟩
  clear bh3 em ms c4
  obtain ⟨hp4, eh4, er4, pr4, xs4, d4⟩ := bh4
  have es : ∀ Hx, EqvS 3 Hx (.int (49 + (nO o : Int))) (.int (48 + 1 + ((ps.map V.ref).length : Int))) := fun Hx => ⟨.inl ⟨.inl (49 + (nO o : Int)), rfl, by rw [List.length_map, lp]; rfl⟩⟩
  have es2 : ∀ Hx, EqvS 3 Hx (.int (49 + ((nO o + 1 : Nat) : Int))) (.int (48 + 2 + ((ps.map V.ref).length : Int))) := fun Hx => ⟨.inl ⟨.inl (49 + ((nO o + 1 : Nat) : Int)), rfl, by rw [List.length_map, lp]; exact congrArg V.int (by omega)⟩⟩
  walk_at "rd"
  refine ite2 (fun _ => ?_) (fun h => absurd (by simpa using h0) h)
  walk_at "rd"
  refine ⟨es _, fun H5 c5 => ?_⟩
  have hp5 := hp4.ch c5
  have eh5 := c5.get eh4 (by simp)
  have er5 := c5.get er4 (by simp)
  have pr5 : Paired (fun r p => RwAt H5 p r) ((tsO o).flatMap rowsT) ps := zaax (fun _ _ => RwAt.tu (Tu.same c5)) pr4
  have xs5 := xs4.tu (Tu.same c5)
  have d5 := d4.trans c5
  have l6 : ps.length ≤ 6 := by rw [lp]; exact ex.n
  clear hp4 eh4 er4 pr4 xs4 c5 d4
  have lm : (mps.map V.ref).length ≤ 16 := by rw [List.length_map, hp5.l]; exact Nat.le_refl _
  have kw : 1 ≤ 1 + m % 16 ∧ 1 + m % 16 ≤ 16 := by omega
  have rb : run HS (rB o (1 + m % 16) (exO9 o)) S0 0 = .inl (nO o + 1) := (zaox ex.k kw (exO9 o)).1 (by omega)
  walk_at "rd"
  rename_i A1 h1 A2 h2 A3 h3 A4 h4 ul hul x dx hx hdx ndx
  have c6 := (((Ch.new (W := []) h1 (.tup [.str "keep", .str "cell", .int (1 + m % 16), .int 0])).trans (Ch.new h2 (.tup [.str "next", .str "cell", .ref pe]))).trans (Ch.new h3 (.tup [.str "out", .str "told", .ref pe])))
  have c7 := (Ch.new (W := []) h4 (.lst [.ref A1, .ref A2, .ref A3])).trans (Ch.new hul (.lst (ps.map V.ref ++ [.ref A1, .ref A2, .ref A3])))
  have c8 := c6.trans c7
  have xs8 := xs5.tu (Tu.same c8)
  have ln := zanb (kw := 1 + m % 16) (e2 := exO9 o) ex.n
  have pu : Paired (fun r p => RwAt _ p r) (rB o (1 + m % 16) (exO9 o)) (ps ++ [A1, A2, A3]) := zac6 (zaax (fun _ _ => RwAt.tu (Tu.same c8)) pr5) (.cons ⟨c7.get (zaa6 h3 (zaa6 h2 zaah)) (by simp), by omega⟩ (.cons ⟨pe, c7.get (zaa6 h3 zaah) (by simp), xs8⟩ (.cons ⟨pe, c7.get zaah (by simp), xs8⟩ .nil)))
  refine ⟨⟨DAt.ch (Ch.inst9 hx hdx ndx) (zag9 (zaf0 (ps := ps) (qs := [A1, A2, A3])) pu ln).h⟩, fun rp H7 c9 x7 d7 => ⟨rfl, ?_⟩⟩
  have cM := c8.trans (Ch.made hx hdx ndx c9)
  have mo := zaha pu ln x7 d7
  have hp7 := hp5.ch cM
  have eh7 := cM.get eh5 (by simp)
  have er7 := cM.get er5 (by simp)
  have d7 := d5.trans cM
  clear c9 x7 c6 c7 c8 hx hdx pu hp5 eh5 er5 pr5 xs5 xs8 d5 cM
  walk_at "rd"
  rename_i L1 g1 L2 g2
  have c10 := (Ch.new (W := []) g1 (.lst [.ref x])).trans (Ch.new g2 (.lst (mps.map V.ref ++ [.ref x])))
  refine ⟨zaf0 (ps := mps) (qs := [x]), (hp7.ms mo).ch c10, ⟨fun S e => by rw [rb] at e; cases e⟩, ⟨(fun S e => by rw [rb] at e; cases e), fun i e H8 c11 => ?_⟩⟩
  rw [rb] at e
  cases e
  have er8 := (c10.trans c11).get er7 (by simp)
  have d8 := (d7.trans c10).trans c11
  walk_at "rd"
  refine ⟨es2 _, fun H9 c12 => ?_⟩
  exact q _ (d8.trans c12)
 ·obtain ⟨S, ra, so, fi⟩ := (zaqz ex.k).2 h0
  have ra : run HS (rA o) S0 0 = .inr S := ra
  refine ⟨⟨fun S' e => by rw [ra] at e; cases e; exact fi⟩, ⟨fun S' e H4 c4 => ?_, fun i e => by rw [ra] at e; cases e⟩⟩
  rw [ra] at e
  cases e
  have bh4 : Box (HpAt CM H4 mps ∧ H4 hl = some (.lst (mps.map V.ref)) ∧ H4 rl = some (.lst (ps.map V.ref)) ∧ Paired (fun r p => RwAt H4 p r) ((tsO o).flatMap rowsT) ps ∧ ExS H4 pe (exO9 o) ∧ Ch [] H H4) := by
   obtain ⟨a, b, c, d, e, f⟩ := bh3
   exact ⟨a.ch c4, c4.get b (by simp), c4.get c (by simp), zaax (fun _ _ => RwAt.tu (Tu.same c4)) d, e.tu (Tu.same c4), f.trans c4⟩
  have em4 := c4.get em (by simp)
  have ms4 := ms.ch c4
  clear bh3 em ms c4
  have es2 : ∀ Hx, EqvS 3 Hx (.int (49 + ((nO o + 1 : Nat) : Int))) (.int (48 + 2 + ((ps.map V.ref).length : Int))) := fun Hx => ⟨.inl ⟨.inl (49 + ((nO o + 1 : Nat) : Int)), rfl, by rw [List.length_map, lp]; exact congrArg V.int (by omega)⟩⟩
  walk_at "rd"
  refine ite2 (fun h => absurd (by simpa using h) h0) (fun _ => ?_)
  walk_at "rd"
  refine ⟨⟨fun S' e => by rw [ra] at e; cases e; exact fi⟩, ra, ⟨fun S' e T l0 l1 as H5 c5 eT el pa => ?_⟩⟩
  rw [ra] at e
  cases e
  rw [so] at pa
  obtain ⟨p1, p2, rfl, e1, e2⟩ : ∃ p1 p2, as = [p1, p2] ∧ H5 p1 = some (.tup [.str "told", .int (oW o)]) ∧ H5 p2 = some (.tup [.str "again", .int (oW o)]) := by
   cases pa with | cons a t => cases t with | cons b t => cases t; exact ⟨_, _, rfl, a, b⟩
  have el : H5 l1 = some (.lst [.ref p1, .ref p2]) := el
  have bh5 : Box (HpAt CM H5 mps ∧ H5 hl = some (.lst (mps.map V.ref)) ∧ H5 rl = some (.lst (ps.map V.ref)) ∧ Paired (fun r p => RwAt H5 p r) ((tsO o).flatMap rowsT) ps ∧ ExS H5 pe (exO9 o) ∧ Ch [] H H5) := by
   obtain ⟨a, b, c, d, e, f⟩ := bh4
   exact ⟨a.ch c5, c5.get b (by simp), c5.get c (by simp), zaax (fun _ _ => RwAt.tu (Tu.same c5)) d, e.tu (Tu.same c5), f.trans c5⟩
  clear bh4 em4 ms4 c5 pa so fi ra
  walk_at "rd"
  rename_i B1 k1 B2 k2 B3 k3
  have c6 := ((Ch.new (W := []) k1 (.tup [.str "told", .int (oW o)])).trans (Ch.new k2 (.tup [.str "again", .int (oW o)]))).trans (Ch.new k3 (.lst [.ref B1, .ref B2]))
  refine ⟨⟨.inr ⟨l1, B3, _, _, .list, rfl, rfl, c6.get el (by simp), zaah, .cons (zalf (c6.get e1 (by simp)) (zaa6 k3 (zaa6 k2 zaah))) (.cons (zalf (c6.get e2 (by simp)) (zaa6 k3 zaah)) .nil), by simp⟩⟩, fun H6 c7 => ?_⟩
  have c7 := c6.trans c7
  obtain ⟨hp5, eh5, er5, pr5, xs5, d5⟩ : Box (HpAt CM H6 mps ∧ H6 hl = some (.lst (mps.map V.ref)) ∧ H6 rl = some (.lst (ps.map V.ref)) ∧ Paired (fun r p => RwAt H6 p r) ((tsO o).flatMap rowsT) ps ∧ ExS H6 pe (exO9 o) ∧ Ch [] H H6) := by
   obtain ⟨a, b, c, d, e, f⟩ := bh5
   exact ⟨a.ch c7, c7.get b (by simp), c7.get c (by simp), zaax (fun _ _ => RwAt.tu (Tu.same c7)) d, e.tu (Tu.same c7), f.trans c7⟩
  clear bh5 k1 k2 k3 c6 c7 e1 e2 el eT
  have l6 : ps.length ≤ 6 := by rw [lp]; exact ex.n
  have lm : (mps.map V.ref).length ≤ 16 := by rw [List.length_map, hp5.l]; exact Nat.le_refl _
  have kw : 1 ≤ 1 + m % 16 ∧ 1 + m % 16 ≤ 16 := by omega
  walk_at "rd"
  rename_i A1 h1 A2 h2 A0 h0' A3 h3 A4 h4 ul hul x dx hx hdx ndx
  have c6 := (((Ch.new (W := []) h1 (.tup [.str "keep", .str "cell", .int (1 + m % 16), .int 0])).trans (Ch.new h2 (.tup [.str "next", .str "cell", .ref pe]))).trans (Ch.new h0' (.tup [.str "name", .str "cell"]))).trans (Ch.new h3 (.tup [.str "out", .str "told", .ref A0]))
  have c7 := (Ch.new (W := []) h4 (.lst [.ref A1, .ref A2, .ref A3])).trans (Ch.new hul (.lst (ps.map V.ref ++ [.ref A1, .ref A2, .ref A3])))
  have c8 := c6.trans c7
  have xs8 := xs5.tu (Tu.same c8)
  have ln := zanb (kw := 1 + m % 16) (e2 := .lf (.nm "cell")) ex.n
  have pu : Paired (fun r p => RwAt _ p r) (rB o (1 + m % 16) (.lf (.nm "cell"))) (ps ++ [A1, A2, A3]) := zac6 (zaax (fun _ _ => RwAt.tu (Tu.same c8)) pr5) (.cons ⟨c7.get (zaa6 h3 (zaa6 h0' (zaa6 h2 zaah))) (by simp), by omega⟩ (.cons ⟨pe, c7.get (zaa6 h3 (zaa6 h0' zaah)) (by simp), xs8⟩ (.cons ⟨A0, c7.get zaah (by simp), c7.get (zaa6 h3 zaah) (by simp), trivial⟩ .nil)))
  refine ⟨⟨DAt.ch (Ch.inst9 hx hdx ndx) (zag9 (zaf0 (ps := ps) (qs := [A1, A2, A3])) pu ln).h⟩, fun rp H7 c9 x7 d7 => ⟨rfl, ?_⟩⟩
  have cM := c8.trans (Ch.made hx hdx ndx c9)
  have mo := zaha pu ln x7 d7
  have hp7 := hp5.ch cM
  have eh7 := cM.get eh5 (by simp)
  have er7 := cM.get er5 (by simp)
  have d7 := d5.trans cM
  clear c9 x7 c6 c7 c8 hx hdx pu hp5 eh5 er5 pr5 xs5 xs8 d5 cM
  walk_at "rd"
  rename_i L1 g1 L2 g2
  have c10 := (Ch.new (W := []) g1 (.lst [.ref x])).trans (Ch.new g2 (.lst (mps.map V.ref ++ [.ref x])))
  by_cases hk : oW o = 1 + m % 16
  ·obtain ⟨S2, rb, fi⟩ := (zaox ex.k kw (.lf (.nm "cell"))).2 hk rfl
   have rb : run HS (rB o (1 + m % 16) (.lf (.nm "cell"))) S0 0 = .inr S2 := rb
   refine ⟨zaf0 (ps := mps) (qs := [x]), (hp7.ms mo).ch c10, ⟨fun S e => by rw [rb] at e; cases e; exact fi⟩, ⟨fun S e H8 c11 => ?_, (fun i e => by rw [rb] at e; cases e)⟩⟩
   have d8 := (d7.trans c10).trans c11
   walk_at "rd"
   refine ite2 (fun _ => ?_) (fun h => absurd (by simpa using hk) h)
   walk_at "rd"
   exact q _ d8
  ·have rb : run HS (rB o (1 + m % 16) (.lf (.nm "cell"))) S0 0 = .inl (nO o + 1) := (zaox ex.k kw _).1 hk
   refine ⟨zaf0 (ps := mps) (qs := [x]), (hp7.ms mo).ch c10, ⟨fun S e => by rw [rb] at e; cases e⟩, ⟨(fun S e => by rw [rb] at e; cases e), fun i e H8 c11 => ?_⟩⟩
   rw [rb] at e
   cases e
   have er8 := (c10.trans c11).get er7 (by simp)
   have d8 := (d7.trans c10).trans c11
   walk_at "rd"
   refine ite2 (fun h => absurd (by simpa using h) hk) (fun h => ?_)
   walk_at "rd"
   refine ⟨es2 _, fun H9 c12 => ?_⟩
   exact q _ (d8.trans c12)
end
end

section
local macro_rules | `(tactic| walk_at "user") => `(tactic| first
 | (apply zafr; walk_at "get")
 | (apply dputS; (focus walk_at "get"); (focus with_reducible assumption)))
theorem zaq8 {H H' : Hp} {b p : Addr} {xs : List V} {o : HO} (c : Ch [b] H H') (hb : H b = some (.lst xs)) (hp : H p = some o) (n : ∀ ys, o ≠ .lst ys) : H' p = some o := c.get hp (by
 intro z
 rw [List.mem_singleton.mp z, hb] at hp
 exact n xs (Option.some.inj hp).symm)
theorem MoAt.kb {CM : Addr} {H H' : Hp} {mp b : Addr} {xs : List V} {nm : Str} {rows : List Rw9} (h : MoAt CM H mp nm rows) (c : Ch [b] H H') (hb : H b = some (.lst xs)) : MoAt CM H' mp nm rows := by
 obtain ⟨dm, rp, ps, a, d, e, l⟩ := h.ex
 exact ⟨dm, rp, ps, zaq8 c hb a (fun _ z => by cases z), zaq8 c hb d (fun _ z => by cases z), zaax (fun _ _ => RwAt.tu (Tu.lst c hb)) e, l⟩
theorem HpAt.kb {CM : Addr} {H H' : Hp} {mps : List Addr} {b : Addr} {xs : List V} (h : HpAt CM H mps) (c : Ch [b] H H') (hb : H b = some (.lst xs)) : HpAt CM H' mps := ⟨h.l, fun i p e => (h.at_ i p e).kb c hb⟩
theorem ExR.kb {H H' : Hp} {pe rl b : Addr} {c0 : Int} {o : Out9} (h : ExR H pe rl o) (c : Ch [b] H H') (hb : H b = some (.lst [.int c0])) : ExR H' pe rl o := by
 obtain ⟨ps, a, d⟩ := h.r
 refine ⟨h.e.tu (Tu.lst c hb), h.x, ⟨ps, c.get a ?_, zaax (fun _ _ => RwAt.tu (Tu.lst c hb)) d⟩, h.k, h.n, h.lo⟩
 intro z
 rw [List.mem_singleton.mp z, hb] at a
 have e : [V.int c0] = ps.map V.ref := by injection Option.some.inj a
 cases ps with
 | nil => cases e
 | cons p ps => injection e with e1 e2; cases e1
def wr : Rw9 → Option Str
 | .inn n _ => some n
 | .keep n _ _ => some n
 | .use n _ => some n
 | _ => none
theorem wr_T {t : Th9} (h : t.kd < 3) : (rowsT t).filterMap wr = [t.nm] := by
 have : t.kd = 0 ∨ t.kd = 1 ∨ t.kd = 2 := by omega
 unfold rowsT
 rcases this with e | e | e <;> rw [e] <;> rfl
theorem Ths.wr {ts : List Th9} (h : Ths ts) : (ts.flatMap rowsT).filterMap wr = ts.map (·.nm) ∧ (ts.map (·.nm)).Nodup := by
 induction h with
 | nil => exact ⟨rfl, List.nodup_nil⟩
 | @snoc ts t h ok hn ih =>
  refine ⟨?_, ?_⟩
  ·rw [List.flatMap_append, List.filterMap_append, ih.1, show [t].flatMap rowsT = rowsT t from by simp, wr_T ok.k, List.map_append]
   rfl
  ·rw [List.map_append, List.nodup_append]
   refine ⟨ih.2, by simp, fun a ha b hb => ?_⟩
   obtain ⟨u, hu, rfl⟩ := List.mem_map.mp ha
   rw [List.map_cons, List.map_nil, List.mem_singleton] at hb
   rw [hb]
   exact hn u hu
def GR (kw ku : List (Key × V)) (H : Hp) : Rw9 → Prop
 | .inn n w => valV kw (.inr n) = some (.int w)
 | .keep n w _ => valV kw (.inr n) = some (.int w)
 | .use n m => ∃ (T L0 L1 P : Addr) (k : Int), valV ku (.inr n) = some (.ref T) ∧ H T = some (.tup [.ref L0, .ref L1]) ∧ H L1 = some (.lst [.ref P]) ∧ H P = some (.tup [.str "big", .int k]) ∧ HS.lookup m = some k
 | _ => True
theorem GR.ch {kw ku : List (Key × V)} {H H' : Hp} {r : Rw9} (h : GR kw ku H r) (c : Ch [] H H') : GR kw ku H' r := by
 cases r with
 | use n m => obtain ⟨T, L0, L1, P, k, a, b, d, e, f⟩ := h; exact ⟨T, L0, L1, P, k, a, c.get b (by simp), c.get d (by simp), c.get e (by simp), f⟩
 | _ => exact h
theorem GR.putW {kw ku : List (Key × V)} {H : Hp} {r : Rw9} {n : Str} {v : V} (h : GR kw ku H r) (hn : wr r ≠ some n) : GR (putK kw (.inr n) v) ku H r := by
 cases r with
 | inn a w => show valV _ _ = _; rw [zadv, if_neg (fun e => hn (congrArg some (Sum.inr.inj e)))]; exact h
 | keep a w f => show valV _ _ = _; rw [zadv, if_neg (fun e => hn (congrArg some (Sum.inr.inj e)))]; exact h
 | _ => exact h
theorem GR.putU {kw ku : List (Key × V)} {H : Hp} {r : Rw9} {n : Str} {v : V} (h : GR kw ku H r) (hn : wr r ≠ some n) : GR kw (putK ku (.inr n) v) H r := by
 cases r with
 | use a m => obtain ⟨T, L0, L1, P, k, x, y⟩ := h; exact ⟨T, L0, L1, P, k, by rw [zadv, if_neg (fun e => hn (congrArg some (Sum.inr.inj e)))]; exact x, y⟩
 | _ => exact h
theorem GR.upd {kw ku : List (Key × V)} {H : Hp} {r : Rw9} {d : Addr} {kvs : List (Key × V)} {o : HO} (h : GR kw ku H r) (hd : H d = some (.dK kvs)) : GR kw ku (upd H d o) r := by
 have g : ∀ {p : Addr} {u : HO}, H p = some u → (∀ ys, u ≠ .dK ys) → L2.upd H d o p = some u := fun hp n => zabc (fun e => by rw [e, hd] at hp; exact n kvs (Option.some.inj hp).symm) hp
 cases r with
 | use n m => obtain ⟨T, L0, L1, P, k, a, b, c, e, f⟩ := h; exact ⟨T, L0, L1, P, k, a, g b (fun _ z => by cases z), g c (fun _ z => by cases z), g e (fun _ z => by cases z), f⟩
 | _ => exact h
theorem GR.tat {kw ku : List (Key × V)} {H : Hp} {wd us : Addr} {t : Th9} (ok : ThOk t) (hw : H wd = some (.dK kw)) (hu : H us = some (.dK ku)) (h : ∀ r ∈ rowsT t, GR kw ku H r) : TAt H wd us t := by
 have : t.kd = 0 ∨ t.kd = 1 ∨ t.kd = 2 := by have := ok.k; omega
 refine ⟨fun k2 => ⟨kw, hw, ?_⟩, fun k2 => ?_⟩
 ·rcases this with e | e | e
  ·exact h (.inn t.nm t.w) (by simp [rowsT, e])
  ·exact h (.keep t.nm t.w 0) (by simp [rowsT, e])
  ·exact absurd e k2
 ·obtain ⟨T, L0, L1, P, k, a, b, c, d, e⟩ := h (.use t.nm (hname (t.w - 1).toNat)) (by simp [rowsT, k2])
  rw [zaqx ok.w] at e
  cases e
  exact ⟨ku, T, L0, L1, P, hu, a, b, c, d⟩
theorem zar7 {ts : List Th9} (h : Ths ts) {n m : Str} (hr : Rw9.use n m ∈ ts.flatMap rowsT) : ∃ u, u < 16 ∧ m = hname u := by
 obtain ⟨t, ht, hr⟩ := List.mem_flatMap.mp hr
 have ok := h.ok t ht
 have := ok.w
 have : t.kd = 0 ∨ t.kd = 1 ∨ t.kd = 2 := by have := ok.k; omega
 refine ⟨(t.w - 1).toNat, by omega, ?_⟩
 rcases this with e | e | e <;> simp [rowsT, e] at hr
 rw [show (t.w - 1).toNat = t.w.toNat - 1 by omega]
 exact hr.2
theorem zao3 {u : Nat} (h : u < 16) : (hname u).cps.toList[4]? = some (chW u) ∧ Txt.find (Str.ofString "abcdefghijklmnop") ({ cps := #[chW u] } : Str) = (u : Int) ∧ (hname u).length = 5 ∧ HS.lookup (hname u) = some (1 + (u : Int)) := by
 rcases lt16 h with rfl | rfl | rfl | rfl | rfl | rfl | rfl | rfl | rfl | rfl | rfl | rfl | rfl | rfl | rfl | rfl <;> decide +kernel
end

section
local macro_rules | `(tactic| walk_at "user") => `(tactic| first
 | (apply zafr; walk_at "get")
 | (apply dputS; (focus walk_at "get"); (focus with_reducible assumption)))
structure LR (K : PySem.W.Frag) (CM : Addr) (H : Hp) (a b hl : Addr) (ns : List Int) (mps : List Addr) (i : Nat) : Prop where
 s : Scr K H a ns
 c : ∃ c : Int, H b = some (.lst [.int c]) ∧ 0 ≤ c ∧ c ≤ 20 * i
 h : H hl = some (.lst (mps.map V.ref))
 m : HpAt CM H mps
theorem zao4 {H : Hp} {V1 V2 : Addr} {i : Nat} (h : i < 16) (e1 : H V1 = some (.tup [.str "value", .int 0, .int ((i : Int) + 1)])) (e2 : H V2 = some (.tup [.str "out", .str "big", .ref V1])) : Paired (fun r p => RwAt H p r) (hrow i) [V2] := .cons ⟨V1, e2, ⟨e1, show (i : Int) + 1 ≤ 10000 by omega⟩⟩ .nil
theorem zar8 {l : List Rw9} {j : Nat} {r : Rw9} {n : Str} (nd : (l.filterMap wr).Nodup) (e : l[j]? = some r) (hw : wr r = some n) : ∀ r' ∈ l.take j, wr r' ≠ some n := fun r' hr' hn => by
 have hj := (List.getElem?_eq_some_iff.mp e)
 have sp : l = l.take j ++ r :: l.drop (j + 1) := by
  rw [← hj.2, List.getElem_cons_drop, List.take_append_drop]
 rw [sp, List.filterMap_append, List.nodup_append] at nd
 exact nd.2.2 n (List.mem_filterMap.mpr ⟨r', hr', hn⟩) n (List.mem_filterMap.mpr ⟨r, by simp, hw⟩) rfl
theorem zaq9 {ts : List Th9} {r : Rw9} (h : r ∈ ts.flatMap rowsT) : (∀ n e, r ≠ .lt n e) ∧ ∀ n e, r ≠ .out n e := by
 obtain ⟨t, ht, hr⟩ := List.mem_flatMap.mp h
 unfold rowsT at hr
 constructor <;> intro n e z <;> subst z <;> split at hr <;> simp at hr <;> split at hr <;> simp at hr
section
variable {P : Program} {w : World} {K : PySem.W.Frag} {mg : Str → Option Value} {base : Heap} {f : Addr} {fd : FuncData} {k : Nat}
theorem zaf1 : Nd "_law_expr_by" := by decide +kernel
theorem zahc : Nd "_law_asked" := by decide +kernel
theorem av37 : AF (defScope (top 37)) ["_law_script", "_law_at", "_law_helpers", "_law_k", "_law_turn", "_law_expr", "_law_rows", "_law_widths", "_law_used", "_law_row"] := ⟨by decide +kernel⟩
theorem gl37 : AG (defScope (top 37)) ["range", "Module", "_law_expr_by", "_law_asked", "_law_next", "_law_wide"] := ⟨by decide +kernel⟩
def spLaw (K : PySem.W.Frag) : Sp := fun vs H Q _ => ∃ (a : Addr) (ns : List Int), vs = [.ref a] ∧ Scr K H a ns ∧ ∀ H', Q (.bl true) H'
theorem scLaw : FnScope ["_law_script", "_law_at", "_law_helpers", "_law_k", "_law_turn", "_law_expr", "_law_rows", "_law_widths", "_law_used", "_law_row"] ["_law_script"] (defScope (top 37)) := ⟨rfl, rfl, rfl, by decide +kernel, rfl, by decide +kernel, by decide +kernel⟩
theorem zara {CM : Addr} (F : Fun K "law" "law" (top 37) f fd) (MkModule : MakeOk P w K mg base CX0 k CM "Module" ["self", "name", "rows"] (spMo CM 5)) (D_law_next : DefOk P w K mg base CX0 (k + 1) "_law_next" ["_law_script", "_law_at"] (spNext K)) (D_law_expr_by : DefOk P w K mg base CX0 (k + 1) "_law_expr_by" ["_law_script", "_law_at"] (spEx K)) (D_law_wide : DefOk P w K mg base CX0 (k + 1) "_law_wide" ["_law_expr", "_law_widths", "_law_used"] spL2) (D_law_asked : DefOk P w K mg base CX0 (k + 1) "_law_asked" ["_law_helpers", "_law_rows", "_law_expr", "_law_wide_here", "_law_m"] (spAsked CM)) (z_range : mg "range" = none) : FnOk P w K mg base CX0 (k + 2) f fd ["_law_script"] (spLaw K) := by
 have nd := scLaw.nd
 refine F.ok scLaw (fun vs H Q E h => by obtain ⟨a, ns, rfl, _⟩ := h; rfl) (fun cdv A outer s H vs Q E hr h => ?_)
 obtain ⟨a, ns, rfl, hS, q⟩ := h
 have hu := zac8 hr
 have hrm := hr
 refine ⟨_, (Pr.h (zaad (zaa1 (i := 1) nd rfl (av37.l 1 rfl) (zaa5 (zaaa zaab zaac zaae))) (zabf (zaa1 (i := 2) nd rfl (av37.l 2 rfl) (zaa5 zaac)) (zaad (zacu PassesOwn.never rfl (zac5 (gl37.g 0 rfl) z_range (zaaa zaab zaac zaae)) (zaa2 (i := 3) nd rfl (av37.l 3 rfl)) (zaaf (zada (zaf9 PySem.F.plainAttrs_list PySem.F.slot_list_append PySem.F.type_list_append zad5 (qv av37 2 rfl) (zaaa (zadj MkModule hrm (gl37.g 1 rfl) pass0 (zaaa (zaau zaeh zaap (zaal zafk zaap (qv av37 3 rfl) (fun _ _ => rfl))) (zaaa (zaa5 (zaaa (zaa4 (zaaa zaap (zaaa zaap (zaaa (zaa4 (zaaa zaap (zaaa zaab (zaaa (zaau zabo (qv av37 3 rfl) zaab) zaac zaa7) zaae) zaae)) zaac zaa8) zaae) zaae)) zaac zaa8)) zaac zacr) zaa7) zaee) zaac zab0))))) (zaad (zacu PassesOwn.never rfl (zac5 (gl37.g 0 rfl) z_range (zaaa zaab zaac zaae)) (zaa2 (i := 4) nd rfl (av37.l 4 rfl)) (zaad (zagr (zaar D_law_expr_by hr (gl37.g 2 rfl) pass0 (zaaa (qv av37 0 rfl) (zaaa (qv av37 1 rfl) zaac zaag) zaag) zaf1) (zagq rfl (zabb (zaa2 (i := 5) nd rfl (av37.l 5 rfl)) (zabb (zaa2 (i := 6) nd rfl (av37.l 6 rfl)) zacl)))) (zaad (zaa1 (i := 7) nd rfl (av37.l 7 rfl) zaco) (zabf (zaa1 (i := 8) nd rfl (av37.l 8 rfl) zaco) (zaad (zacu PassesOwn.never rfl (zact (qv av37 6 rfl)) (zaa2 (i := 9) nd rfl (av37.l 9 rfl)) (zaaf (zaaw (zaaq zabg (zaal zaat (qv av37 9 rfl) zaab (fun _ _ => rfl)) zaap (nomark _)) (zaaf (zacm hu (qv av37 8 rfl) (zaal zaat (qv av37 9 rfl) zaab (fun _ _ => rfl)) (zaa4 (zaaa (zaa5 zaac) (zaaa (zaa5 (zaaa (zaa4 (zaaa zaap (zaaa (zaau zabo zaab (zaf9 PySem.F.plainAttrs_str PySem.F.slot_str_find PySem.F.type_str_find zaoj zaap (zaaa (zaal zafk (zaal zaat (qv av37 9 rfl) zaab (fun _ _ => rfl)) zaab (fun _ _ => rfl)) zaac zaas))) zaac zaa7) zaae)) zaac zaa8)) zaac zacr) zacr)) rfl)) (zaaf (zaaw (zaaq zadh (zaal zaat (qv av37 9 rfl) zaab (fun _ _ => rfl)) zaap (nomark _)) (zaaf (zacm hu (qv av37 7 rfl) (zaal zaat (qv av37 9 rfl) zaab (fun _ _ => rfl)) (zaal zaat (qv av37 9 rfl) zaab (fun _ _ => rfl)) rfl)) zaak))))) (zaaf (zaaw (zacd (zaba (zaar D_law_asked hr (gl37.g 3 rfl) pass0 (zaaa (qv av37 2 rfl) (zaaa (qv av37 6 rfl) (zaaa (qv av37 5 rfl) (zaaa (zaar D_law_wide hr (gl37.g 5 rfl) pass0 (zaaa (qv av37 5 rfl) (zaaa (qv av37 7 rfl) (zaaa (qv av37 8 rfl) zaac zaag) zaag) zaag) zadq) (zaaa (zaar D_law_next hr (gl37.g 4 rfl) pass0 (zaaa (qv av37 0 rfl) (zaaa (qv av37 1 rfl) zaac zaag) zaag) zacq) zaac zab0) zab0) zaag) zaag) zaag) zahc))) (zaaf (zaaj zabm)) zaak))))))) (zaaf (zaaj zabm))))))), ?_⟩
 (try dsimp only [cxOf])
 have bx : Box (Scr K H a ns) := ⟨hS⟩
 clear hS
 walk_at "rd"
 rename_i b hb
 have c0 : Ch [] H (upd H b (.lst [.int 0])) := Ch.new hb _
 have b0 : upd H b (.lst [.int 0]) b = some (.lst [.int 0]) := zaah
 have s0 : Box (Scr K (upd H b (.lst [.int 0])) a ns) := ⟨bx.h.same c0⟩
 generalize upd H b (.lst [.int 0]) = H0 at b0 s0 ⊢
 clear bx c0 hb
 refine zab7 (fun σ H' => Box (∃ hl, σ = [some (.ref a), some (.ref b), some (.ref hl), none, none, none, none, none, none, none] ∧ H' b = some (.lst [.int 0]) ∧ H' hl = some (.lst []) ∧ hl ≠ b ∧ Scr K H' a ns)) ?_ ?_
 ·walk_at "rd"
  rename_i hl hh
  exact ⟨hl, rfl, zaa6 hh b0, zaah, (fun e => by rw [e, b0] at hh; cases hh), s0.h.same (Ch.new hh _)⟩
 rintro σ H1 ⟨hl, rfl, b1, h1, nb, s1⟩
 clear b0 s0
 have bs1 : Box (Scr K H1 a ns) := ⟨s1⟩
 clear s1
 walk_at "rd"
 refine zac2 (fun i σ H' => Box (∃ mps v3, σ = [some (.ref a), some (.ref b), some (.ref hl), v3, none, none, none, none, none, none] ∧ H' b = some (.lst [.int 0]) ∧ H' hl = some (.lst (mps.map V.ref)) ∧ mps.length = i ∧ (∀ j p, mps[j]? = some p → MoAt CM H' p (hname j) (hrow j)) ∧ Scr K H' a ns)) ⟨[], _, rfl, b1, h1, rfl, fun j p e => by simp at e, bs1.h⟩ ?_ ?_
 ·rintro i σ H2 hi ⟨mps, v3, rfl, b2, h2, l2, m2, s2⟩
  clear b1 h1 bs1
  have i16 : i < 16 := by omega
  have bs2 : Box (Scr K H2 a ns ∧ ∀ j p, mps[j]? = some p → MoAt CM H2 p (hname j) (hrow j)) := ⟨s2, m2⟩
  clear s2 m2
  have ea : atI (Str.ofString "abcdefghijklmnop").cps.toList (i : Int) = some (chW i) := zadi (zam6 i16)
  rw [show (0 : Int) + (i : Int) = (i : Int) from Int.zero_add _]
  have lm : (mps.map V.ref).length ≤ 16 := by rw [List.length_map, l2]; omega
  walk_at "rd"
  rename_i V1 k1 V2 k2 L k3 x dx hx hdx ndx
  have c5 := ((Ch.new (W := []) k1 (.tup [.str "value", .int 0, .int ((i : Int) + 1)])).trans (Ch.new k2 (.tup [.str "out", .str "big", .ref V1]))).trans (Ch.new k3 (.lst [.ref V2]))
  have pu := zao4 (H := upd (upd (upd H2 V1 (.tup [.str "value", .int 0, .int ((i : Int) + 1)])) V2 (.tup [.str "out", .str "big", .ref V1])) L (.lst [.ref V2])) i16 (zaa6 k3 (zaa6 k2 zaah)) (zaa6 k3 zaah)
  refine ⟨⟨DAt.ch (Ch.inst9 hx hdx ndx) (zag9 (ps := [V2]) zaah pu (by simp [hrow])).h⟩, fun rp H7 c9 x7 d7 => ⟨rfl, ?_⟩⟩
  have cM := c5.trans (Ch.made hx hdx ndx c9)
  have mo := zaha pu (by simp [hrow]) x7 d7
  rw [← zaq3 i16] at mo
  have b7 := cM.get b2 (by simp)
  have h7 := cM.get h2 (by simp)
  have bs7 : Box (Scr K H7 a ns ∧ ∀ j p, mps[j]? = some p → MoAt CM H7 p (hname j) (hrow j)) := ⟨bs2.h.1.same cM, fun j p e => (bs2.h.2 j p e).ch cM⟩
  clear bs2 cM pu c5 c9 d7 x7 hx hdx b2 h2
  walk_at "rd"
  refine ⟨mps ++ [x], _, rfl, zabc nb.symm b7, by rw [zaah, List.map_append]; rfl, by rw [List.length_append, l2]; rfl, fun j p e => ?_, bs7.h.1.ch h7 Ch.put⟩
  refine MoAt.kb ?_ Ch.put h7
  by_cases hj : j < mps.length
  ·rw [List.getElem?_append_left hj] at e
   exact bs7.h.2 j p e
  ·have : j < (mps ++ [x]).length := (List.getElem?_eq_some_iff.mp e).1
   rw [List.length_append, List.length_singleton] at this
   have hj2 : j = i := by omega
   subst hj2
   rw [List.getElem?_append_right (by omega), l2, Nat.sub_self] at e
   cases Option.some.inj e
   exact mo
 ·rintro σ H2 ⟨mps, v3, rfl, b2, h2, l2, m2, s2⟩
  clear b1 h1 bs1
  have lr : LR K CM H2 a b hl ns mps 0 := ⟨s2, ⟨0, b2, by omega, by omega⟩, h2, l2, m2⟩
  clear b2 h2 l2 m2 s2
  walk_at "rd"
  refine zac2 (fun i σ H' => Box (∃ v3 v4 v5 v6 v7 v8 v9, σ = [some (.ref a), some (.ref b), some (.ref hl), v3, v4, v5, v6, v7, v8, v9] ∧ LR K CM H' a b hl ns mps i)) ⟨_, _, _, _, _, _, _, rfl, lr⟩ ?_ ?_
  ·rintro i σ H3 hi ⟨v3, v4, v5, v6, v7, v8, v9, rfl, ⟨s3, ⟨c, b3, c0, c1⟩, h3, m3⟩⟩
   clear lr
   have i12 : i < 12 := by omega
   have bs3 : Box (Scr K H3 a ns ∧ HpAt CM H3 mps) := ⟨s3, m3⟩
   clear s3 m3
   walk_at "rd"
   refine ⟨bs3.h.1, b3, c0, by omega, fun o T pe rl c' H4 d4 b4 l1 l2 eT ex => ?_⟩
   have bs4 : Box (Scr K H4 a ns ∧ HpAt CM H4 mps ∧ ExR H4 pe rl o) := ⟨bs3.h.1.ch b3 d4, bs3.h.2.kb d4 b3, ex⟩
   have h4 := d4.get h3 (by simpa using nb)
   clear bs3 h3 b3 d4 ex
   walk_at "rd"
   rename_i wd hwd
   refine zab7 (fun σ H' => Box (∃ us, σ = [some (.ref a), some (.ref b), some (.ref hl), v3, some (.int (0 + (i : Int))), some (.ref pe), some (.ref rl), some (.ref wd), some (.ref us), v9] ∧ Ch [] H4 H' ∧ H' wd = some (.dK []) ∧ H' us = some (.dK []) ∧ wd ≠ us ∧ H4 wd = none ∧ H4 us = none)) ?_ ?_
   ·walk_at "rd"
    rename_i us hus
    exact ⟨us, rfl, (Ch.new hwd _).trans (Ch.new hus _), zaa6 hus zaah, zaah, (fun e => by rw [← e, zaah] at hus; cases hus), hwd, chFree (Ch.new hwd _) hus⟩
   clear hwd
   rintro σ H5 ⟨us, rfl, c5, w5, u5, wu, fw, fu⟩
   obtain ⟨ps, er, pr⟩ := bs4.h.2.2.r
   have er5 := c5.get er (by simp)
   have l6 : ps.length ≤ 6 := by rw [← pr.length]; exact bs4.h.2.2.n
   obtain ⟨nw1, nw2⟩ := bs4.h.2.2.k.t.wr
   walk_at "rd"
   refine zaht (xs := ps.map V.ref) (fun j σ H' => Box (∃ v9 kw ku, σ = [some (.ref a), some (.ref b), some (.ref hl), v3, some (.int (0 + (i : Int))), some (.ref pe), some (.ref rl), some (.ref wd), some (.ref us), v9] ∧ Ch [] H4 H' ∧ H' wd = some (.dK kw) ∧ H' us = some (.dK ku) ∧ kw.length ≤ j ∧ ku.length ≤ j ∧ ∀ r ∈ ((tsO o).flatMap rowsT).take j, GR kw ku H' r)) ⟨_, [], [], rfl, c5, w5, u5, by simp, by simp, by simp⟩ ?_ ?_ ?_
   ·rintro j σ H6 hj ⟨v9, kw, ku, rfl, c6, _⟩
    exact SqL.of (c6.get er (by simp))
   ·rintro j z σ H6 hz ⟨v9, kw, ku, rfl, c6, w6, u6, k6, k7, g6⟩
    clear w5 u5 c5 er5
    rw [List.getElem?_map] at hz
    obtain ⟨p, hp, rfl⟩ := Option.map_eq_some_iff.mp hz
    obtain ⟨r, hr', ra⟩ := zade pr hp
    have ra := RwAt.tu (Tu.same c6) ra
    have hm := List.mem_of_getElem? hr'
    have jl : j < 6 := by have := (List.getElem?_eq_some_iff.mp hp).1; omega
    have et : ((tsO o).flatMap rowsT).take (j + 1) = ((tsO o).flatMap rowsT).take j ++ [r] := by rw [List.take_add_one, hr']; rfl
    have lw : kw.length < sizeLine := by rw [sizeLine_eq]; omega
    have lu : ku.length < sizeLine := by rw [sizeLine_eq]; omega
    have all : ∀ {kw' ku' : List (Key × V)} {H' : Hp}, (∀ r' ∈ ((tsO o).flatMap rowsT).take j, GR kw' ku' H' r') → GR kw' ku' H' r → ∀ r' ∈ ((tsO o).flatMap rowsT).take (j + 1), GR kw' ku' H' r' := fun h1 h2 r' hr' => by
     rw [et] at hr'
     rcases List.mem_append.mp hr' with h | h
     ·exact h1 r' h
     ·rw [List.mem_singleton.mp h]; exact h2
    have ndw : ∀ n, wr r = some n → ∀ r' ∈ ((tsO o).flatMap rowsT).take j, wr r' ≠ some n := fun n hn => zar8 (by rw [nw1]; exact nw2) hr' hn
    clear pr er hz hp
    cases r with
    | inn n wi =>
     have ra : H6 p = some (.tup [.str "in", .str n, .int wi]) := ra
     walk_at "rd"
     exact ⟨_, _, ku, rfl, Ch.own fw c6, zaah, zabc wu.symm u6, by have := zab6 kw (.inr n) (.int wi); omega, by omega, all (fun r' h => ((g6 r' h).putW (ndw n rfl r' h)).upd w6) (by show valV _ _ = _; rw [zadv, if_pos rfl])⟩
    | keep n wi fi =>
     have ra : H6 p = some (.tup [.str "keep", .str n, .int wi, .int fi]) := ra.1
     walk_at "rd"
     exact ⟨_, _, ku, rfl, Ch.own fw c6, zaah, zabc wu.symm u6, by have := zab6 kw (.inr n) (.int wi); omega, by omega, all (fun r' h => ((g6 r' h).putW (ndw n rfl r' h)).upd w6) (by show valV _ _ = _; rw [zadv, if_pos rfl])⟩
    | nxt n e =>
     obtain ⟨q1, ra, _⟩ := ra
     walk_at "rd"
     exact ⟨_, kw, ku, rfl, c6, w6, u6, by omega, by omega, all g6 trivial⟩
    | lt n e => exact absurd rfl ((zaq9 hm).1 n e)
    | out n e => exact absurd rfl ((zaq9 hm).2 n e)
    | use n m =>
     obtain ⟨q1, ra, _⟩ := ra
     obtain ⟨u, u16, rfl⟩ := zar7 bs4.h.2.2.k.t hm
     obtain ⟨f1, f2, f3, f4⟩ := zao3 u16
     have f0 : (hname u).length ≤ sizeLine := by rw [f3, sizeLine_eq]; omega
     have f1 : atI (hname u).cps.toList 4 = some (chW u) := zadi (j := 4) f1
     generalize hname u = hn at *
     walk_at "rd"
     rename_i L0 k0 P k1 L1 k2 T k3
     have c7 := (((Ch.new (W := []) k0 (.lst [])).trans (Ch.new k1 (.tup [.str "big", .int (1 + Txt.find (Str.ofString "abcdefghijklmnop") { cps := #[chW u] })]))).trans (Ch.new k2 (.lst [.ref P]))).trans (Ch.new k3 (.tup [.ref L0, .ref L1]))
     have u7 := c7.get u6 (by simp)
     have eT' := (zaah : upd (upd (upd (upd H6 L0 (.lst [])) P (.tup [.str "big", .int (1 + Txt.find (Str.ofString "abcdefghijklmnop") { cps := #[chW u] })])) L1 (.lst [.ref P])) T (.tup [.ref L0, .ref L1]) T = _)
     have eL : upd (upd (upd (upd H6 L0 (.lst [])) P (.tup [.str "big", .int (1 + Txt.find (Str.ofString "abcdefghijklmnop") { cps := #[chW u] })])) L1 (.lst [.ref P])) T (.tup [.ref L0, .ref L1]) L1 = some (.lst [.ref P]) := zaa6 k3 zaah
     have eP : upd (upd (upd (upd H6 L0 (.lst [])) P (.tup [.str "big", .int (1 + Txt.find (Str.ofString "abcdefghijklmnop") { cps := #[chW u] })])) L1 (.lst [.ref P])) T (.tup [.ref L0, .ref L1]) P = some (.tup [.str "big", .int (1 + Txt.find (Str.ofString "abcdefghijklmnop") { cps := #[chW u] })]) := zaa6 k3 (zaa6 k2 zaah)
     exact ⟨_, kw, _, rfl, Ch.own fu (c6.trans c7), zabc wu (c7.get w6 (by simp)), zaah, by omega, by have := zab6 ku (.inr n) (.ref T); omega, all (fun r' h => (((g6 r' h).ch c7).putU (ndw n rfl r' h)).upd u7) ⟨T, L0, L1, P, _, by rw [zadv, if_pos rfl], zabc (zacc eT' u7 (by intro z; cases z)) eT', zabc (zacc eL u7 (by intro z; cases z)) eL, zabc (zacc eP u7 (by intro z; cases z)) eP, by rw [f4, f2]⟩⟩
   ·rintro σ H6 ⟨v9, kw, ku, rfl, c6, w6, u6, k6, k7, g6⟩
    clear w5 u5 c5 er5
    rw [List.length_map, ← pr.length, List.take_length] at g6
    have bs6 : Box (Scr K H6 a ns ∧ HpAt CM H6 mps ∧ ExR H6 pe rl o ∧ ∀ t ∈ tsO o, TAt H6 wd us t) := by
     obtain ⟨s4, m4, x4⟩ := bs4
     refine ⟨s4.same c6, m4.ch c6, ⟨x4.e.tu (Tu.same c6), x4.x, ⟨ps, c6.get er (by simp), zaax (fun _ _ => RwAt.tu (Tu.same c6)) pr⟩, x4.k, x4.n, x4.lo⟩, fun t ht => GR.tat (x4.k.t.ok t ht) w6 u6 (fun r hr => g6 r (List.mem_flatMap.mpr ⟨t, ht, hr⟩))⟩
    have h6 := c6.get h4 (by simp)
    have b6 := c6.get b4 (by simp)
    clear bs4 er pr c6 w6 u6 g6 h4 b4 eT
    walk_at "rd"
    refine ⟨⟨bs6.h.2.2.1.e, bs6.h.2.2.1.x⟩, bs6.h.2.2.1.k, bs6.h.2.2.1.lo, bs6.h.2.2.2, fun H7 c7 => ?_⟩
    walk_at "rd"
    refine ⟨bs6.h.1.same c7, c7.get b6 (by simp), by omega, by omega, fun n H8 n0 n1 d8 b8 => ?_⟩
    have b7 := c7.get b6 (by simp)
    have h8 := d8.get (c7.get h6 (by simp)) (by simpa using nb)
    obtain ⟨s6, m6, x6, _⟩ := bs6
    have x7 : ExR H7 pe rl o := by
     obtain ⟨ps, er, pr⟩ := x6.r
     exact ⟨x6.e.tu (Tu.same c7), x6.x, ⟨ps, c7.get er (by simp), zaax (fun _ _ => RwAt.tu (Tu.same c7)) pr⟩, x6.k, x6.n, x6.lo⟩
    have x8 := x7.kb d8 b7
    have m8 := (m6.ch c7).kb d8 b7
    have s8 := (s6.same c7).ch b7 d8
    clear d8 b7 x7 c7 b6 h6 s6 m6 x6
    have bs8 : Box (Scr K H8 a ns) := ⟨s8⟩
    clear s8
    walk_at "rd"
    rename_i H9 c9
    have lr : LR K CM H9 a b hl ns mps (i + 1) := ⟨bs8.h.same c9, ⟨c' + 1, c9.get b8 (by simp), by omega, by omega⟩, c9.get h8 (by simp), m8.ch c9⟩
    exact ⟨_, _, _, _, _, _, _, rfl, lr⟩
  ·rintro σ H3 ⟨v3, v4, v5, v6, v7, v8, v9, rfl, _⟩
   walk_at "rd"
   exact q _
end
end

section
theorem zali {K : PySem.W.Frag} {C CF : Addr} (e : PySem.W.mroIn K C (.ref CF) = some true) : XSub K C CF := by
 obtain ⟨cd, a, b⟩ := Option.bind_eq_some_iff.mp e
 unfold PySem.W.clsIn at a
 split at a
 case h_2 => cases a
 case h_1 cl di cd' sl ho =>
  cases a
  unfold XSub
  rw [ho]
  split at b
  ·cases b
  ·exact Option.some.inj b
theorem zarb {K : PySem.W.Frag} {C : Addr} {v : Value} (e : PySem.W.mroIn K C v = some true) : (PySem.W.clsIn K C).isSome = true := by
 obtain ⟨cd, a, b⟩ := Option.bind_eq_some_iff.mp e
 rw [a]
 rfl
def sptO (a b c d e CS : Addr) (f : Addr) : Sp := if f = a then spT "in" CS else if f = b then spT "keep" CS else if f = c then spT "let" CS else if f = d then spT "use" CS else if f = e then spT "next" CS else spT "out" CS
theorem zarc {l : PySem.W.OpenLaw} {w : World} {K : PySem.W.Frag} {h : Heap} {mg : Str → Option Value} {fa CS CM : Addr} (X : K.In h) (G : h.Ns mainGlobals mg) (hfa : mg "law" = some (.ref fa))
  {f0 : Addr} {od0 an0 : Option Addr} {sl0 : Array (Option Value)} {oc0 kV0 dc0 pm0 cd0 ct0 : Value}
  {f1 : Addr} {od1 an1 : Option Addr} {sl1 : Array (Option Value)} {oc1 kV1 dc1 pm1 cd1 ct1 : Value}
  {f2 : Addr} {od2 an2 : Option Addr} {sl2 : Array (Option Value)} {oc2 kV2 dc2 pm2 cd2 ct2 : Value}
  {f3 : Addr} {od3 an3 : Option Addr} {sl3 : Array (Option Value)} {oc3 kV3 dc3 pm3 cd3 ct3 : Value}
  {f4 : Addr} {od4 an4 : Option Addr} {sl4 : Array (Option Value)} {oc4 kV4 dc4 pm4 cd4 ct4 : Value}
  {f5 : Addr} {od5 an5 : Option Addr} {sl5 : Array (Option Value)} {oc5 kV5 dc5 pm5 cd5 ct5 : Value}
  {f6 : Addr} {od6 an6 : Option Addr} {sl6 : Array (Option Value)} {oc6 kV6 dc6 pm6 cd6 ct6 : Value}
  {f7 : Addr} {od7 an7 : Option Addr} {sl7 : Array (Option Value)} {oc7 kV7 dc7 pm7 cd7 ct7 : Value}
  {f8 : Addr} {od8 an8 : Option Addr} {sl8 : Array (Option Value)} {oc8 kV8 dc8 pm8 cd8 ct8 : Value}
  {f9 : Addr} {od9 an9 : Option Addr} {sl9 : Array (Option Value)} {oc9 kV9 dc9 pm9 cd9 ct9 : Value}
  {f10 : Addr} {od10 an10 : Option Addr} {sl10 : Array (Option Value)} {oc10 kV10 dc10 pm10 cd10 ct10 : Value}
  {f11 : Addr} {od11 an11 : Option Addr} {sl11 : Array (Option Value)} {oc11 kV11 dc11 pm11 cd11 ct11 : Value}
  {f12 : Addr} {od12 an12 : Option Addr} {sl12 : Array (Option Value)} {oc12 kV12 dc12 pm12 cd12 ct12 : Value}
  {f13 : Addr} {od13 an13 : Option Addr} {sl13 : Array (Option Value)} {oc13 kV13 dc13 pm13 cd13 ct13 : Value}
  {f14 : Addr} {od14 an14 : Option Addr} {sl14 : Array (Option Value)} {oc14 kV14 dc14 pm14 cd14 ct14 : Value}
  {f15 : Addr} {od15 an15 : Option Addr} {sl15 : Array (Option Value)} {oc15 kV15 dc15 pm15 cd15 ct15 : Value}
  {f16 : Addr} {od16 an16 : Option Addr} {sl16 : Array (Option Value)} {oc16 kV16 dc16 pm16 cd16 ct16 : Value}
  {f17 : Addr} {od17 an17 : Option Addr} {sl17 : Array (Option Value)} {oc17 kV17 dc17 pm17 cd17 ct17 : Value}
  {f18 : Addr} {od18 an18 : Option Addr} {sl18 : Array (Option Value)} {oc18 kV18 dc18 pm18 cd18 ct18 : Value}
  {f19 : Addr} {od19 an19 : Option Addr} {sl19 : Array (Option Value)} {oc19 kV19 dc19 pm19 cd19 ct19 : Value}
  {f20 : Addr} {od20 an20 : Option Addr} {sl20 : Array (Option Value)} {oc20 kV20 dc20 pm20 cd20 ct20 : Value}
  {f21 : Addr} {od21 an21 : Option Addr} {sl21 : Array (Option Value)} {oc21 kV21 dc21 pm21 cd21 ct21 : Value}
  {f22 : Addr} {od22 an22 : Option Addr} {sl22 : Array (Option Value)} {oc22 kV22 dc22 pm22 cd22 ct22 : Value}
  {f23 : Addr} {od23 an23 : Option Addr} {sl23 : Array (Option Value)} {oc23 kV23 dc23 pm23 cd23 ct23 : Value}
  {f24 : Addr} {od24 an24 : Option Addr} {sl24 : Array (Option Value)} {oc24 kV24 dc24 pm24 cd24 ct24 : Value}
  {f25 : Addr} {od25 an25 : Option Addr} {sl25 : Array (Option Value)} {oc25 kV25 dc25 pm25 cd25 ct25 : Value}
  {f26 : Addr} {od26 an26 : Option Addr} {sl26 : Array (Option Value)} {oc26 kV26 dc26 pm26 cd26 ct26 : Value}
  {f27 : Addr} {od27 an27 : Option Addr} {sl27 : Array (Option Value)} {oc27 kV27 dc27 pm27 cd27 ct27 : Value}
  {f28 : Addr} {od28 an28 : Option Addr} {sl28 : Array (Option Value)} {oc28 kV28 dc28 pm28 cd28 ct28 : Value}
  {f29 : Addr} {od29 an29 : Option Addr} {sl29 : Array (Option Value)} {oc29 kV29 dc29 pm29 cd29 ct29 : Value}
  {f30 : Addr} {od30 an30 : Option Addr} {sl30 : Array (Option Value)} {oc30 kV30 dc30 pm30 cd30 ct30 : Value}
  {EFloorError ENoSense : Addr}
  (aS : PySem.W.nsIn K mainGlobals "Sense" = some (some (.ref CS)))
  (aM : PySem.W.nsIn K mainGlobals "Module" = some (some (.ref CM)))
  (eFloorError : PySem.W.nsIn K mainGlobals "FloorError" = some (some (.ref EFloorError)))
  (eNoSense : PySem.W.nsIn K mainGlobals "NoSense" = some (some (.ref ENoSense)))
  (a0 : PySem.W.nsIn K mainGlobals "is_wide" = some (some (.ref f0))) (l0 : K.lookup f0 = some ⟨oc0, od0, .func (PySem.W.fnOf "is_wide" "is_wide" (defArgs (top 6)) (defBody (top 6)) (defScope (top 6)) .none kV0 dc0 pm0 an0 cd0 ct0), sl0⟩) (c0 : PySem.W.codeIn K cd0 "is_wide" = true) (k0 : PySem.W.keepIn K (.ref f0) = true)
  (a1 : PySem.W.nsIn K mainGlobals "is_of_width" = some (some (.ref f1))) (l1 : K.lookup f1 = some ⟨oc1, od1, .func (PySem.W.fnOf "is_of_width" "is_of_width" (defArgs (top 7)) (defBody (top 7)) (defScope (top 7)) .none kV1 dc1 pm1 an1 cd1 ct1), sl1⟩) (c1 : PySem.W.codeIn K cd1 "is_of_width" = true) (k1 : PySem.W.keepIn K (.ref f1) = true)
  (a2 : PySem.W.nsIn K mainGlobals "wide_of" = some (some (.ref f2))) (l2 : K.lookup f2 = some ⟨oc2, od2, .func (PySem.W.fnOf "wide_of" "wide_of" (defArgs (top 8)) (defBody (top 8)) (defScope (top 8)) .none kV2 dc2 pm2 an2 cd2 ct2), sl2⟩) (c2 : PySem.W.codeIn K cd2 "wide_of" = true) (k2 : PySem.W.keepIn K (.ref f2) = true)
  (a3 : PySem.W.nsIn K mainGlobals "wide_of_out" = some (some (.ref f3))) (l3 : K.lookup f3 = some ⟨oc3, od3, .func (PySem.W.fnOf "wide_of_out" "wide_of_out" (defArgs (top 9)) (defBody (top 9)) (defScope (top 9)) .none kV3 dc3 pm3 an3 cd3 ct3), sl3⟩) (c3 : PySem.W.codeIn K cd3 "wide_of_out" = true) (k3 : PySem.W.keepIn K (.ref f3) = true)
  (a4 : PySem.W.nsIn K mainGlobals "wide_of_part" = some (some (.ref f4))) (l4 : K.lookup f4 = some ⟨oc4, od4, .func (PySem.W.fnOf "wide_of_part" "wide_of_part" (defArgs (top 10)) (defBody (top 10)) (defScope (top 10)) .none kV4 dc4 pm4 an4 cd4 ct4), sl4⟩) (c4 : PySem.W.codeIn K cd4 "wide_of_part" = true) (k4 : PySem.W.keepIn K (.ref f4) = true)
  (a5 : PySem.W.nsIn K mainGlobals "wide_of_word" = some (some (.ref f5))) (l5 : K.lookup f5 = some ⟨oc5, od5, .func (PySem.W.fnOf "wide_of_word" "wide_of_word" (defArgs (top 11)) (defBody (top 11)) (defScope (top 11)) .none kV5 dc5 pm5 an5 cd5 ct5), sl5⟩) (c5 : PySem.W.codeIn K cd5 "wide_of_word" = true) (k5 : PySem.W.keepIn K (.ref f5) = true)
  (a6 : PySem.W.nsIn K mainGlobals "is_free" = some (some (.ref f6))) (l6 : K.lookup f6 = some ⟨oc6, od6, .func (PySem.W.fnOf "is_free" "is_free" (defArgs (top 12)) (defBody (top 12)) (defScope (top 12)) .none kV6 dc6 pm6 an6 cd6 ct6), sl6⟩) (c6 : PySem.W.codeIn K cd6 "is_free" = true) (k6 : PySem.W.keepIn K (.ref f6) = true)
  (a7 : PySem.W.nsIn K mainGlobals "take_in" = some (some (.ref f7))) (l7 : K.lookup f7 = some ⟨oc7, od7, .func (PySem.W.fnOf "take_in" "take_in" (defArgs (top 13)) (defBody (top 13)) (defScope (top 13)) .none kV7 dc7 pm7 an7 cd7 ct7), sl7⟩) (c7 : PySem.W.codeIn K cd7 "take_in" = true) (k7 : PySem.W.keepIn K (.ref f7) = true)
  (a8 : PySem.W.nsIn K mainGlobals "take_keep" = some (some (.ref f8))) (l8 : K.lookup f8 = some ⟨oc8, od8, .func (PySem.W.fnOf "take_keep" "take_keep" (defArgs (top 14)) (defBody (top 14)) (defScope (top 14)) .none kV8 dc8 pm8 an8 cd8 ct8), sl8⟩) (c8 : PySem.W.codeIn K cd8 "take_keep" = true) (k8 : PySem.W.keepIn K (.ref f8) = true)
  (a9 : PySem.W.nsIn K mainGlobals "take_let" = some (some (.ref f9))) (l9 : K.lookup f9 = some ⟨oc9, od9, .func (PySem.W.fnOf "take_let" "take_let" (defArgs (top 15)) (defBody (top 15)) (defScope (top 15)) .none kV9 dc9 pm9 an9 cd9 ct9), sl9⟩) (c9 : PySem.W.codeIn K cd9 "take_let" = true) (k9 : PySem.W.keepIn K (.ref f9) = true)
  (a10 : PySem.W.nsIn K mainGlobals "take_use" = some (some (.ref f10))) (l10 : K.lookup f10 = some ⟨oc10, od10, .func (PySem.W.fnOf "take_use" "take_use" (defArgs (top 16)) (defBody (top 16)) (defScope (top 16)) .none kV10 dc10 pm10 an10 cd10 ct10), sl10⟩) (c10 : PySem.W.codeIn K cd10 "take_use" = true) (k10 : PySem.W.keepIn K (.ref f10) = true)
  (a11 : PySem.W.nsIn K mainGlobals "take_next" = some (some (.ref f11))) (l11 : K.lookup f11 = some ⟨oc11, od11, .func (PySem.W.fnOf "take_next" "take_next" (defArgs (top 17)) (defBody (top 17)) (defScope (top 17)) .none kV11 dc11 pm11 an11 cd11 ct11), sl11⟩) (c11 : PySem.W.codeIn K cd11 "take_next" = true) (k11 : PySem.W.keepIn K (.ref f11) = true)
  (a12 : PySem.W.nsIn K mainGlobals "take_out" = some (some (.ref f12))) (l12 : K.lookup f12 = some ⟨oc12, od12, .func (PySem.W.fnOf "take_out" "take_out" (defArgs (top 18)) (defBody (top 18)) (defScope (top 18)) .none kV12 dc12 pm12 an12 cd12 ct12), sl12⟩) (c12 : PySem.W.codeIn K cd12 "take_out" = true) (k12 : PySem.W.keepIn K (.ref f12) = true)
  (a13 : PySem.W.nsIn K mainGlobals "sense_of_module" = some (some (.ref f13))) (l13 : K.lookup f13 = some ⟨oc13, od13, .func (PySem.W.fnOf "sense_of_module" "sense_of_module" (defArgs (top 20)) (defBody (top 20)) (defScope (top 20)) .none kV13 dc13 pm13 an13 cd13 ct13), sl13⟩) (c13 : PySem.W.codeIn K cd13 "sense_of_module" = true) (k13 : PySem.W.keepIn K (.ref f13) = true)
  (a14 : PySem.W.nsIn K mainGlobals "top_sense" = some (some (.ref f14))) (l14 : K.lookup f14 = some ⟨oc14, od14, .func (PySem.W.fnOf "top_sense" "top_sense" (defArgs (top 21)) (defBody (top 21)) (defScope (top 21)) .none kV14 dc14 pm14 an14 cd14 ct14), sl14⟩) (c14 : PySem.W.codeIn K cd14 "top_sense" = true) (k14 : PySem.W.keepIn K (.ref f14) = true)
  (a15 : PySem.W.nsIn K mainGlobals "ask_sense" = some (some (.ref f15))) (l15 : K.lookup f15 = some ⟨oc15, od15, .func (PySem.W.fnOf "ask_sense" "ask_sense" (defArgs (top 22)) (defBody (top 22)) (defScope (top 22)) .none kV15 dc15 pm15 an15 cd15 ct15), sl15⟩) (c15 : PySem.W.codeIn K cd15 "ask_sense" = true) (k15 : PySem.W.keepIn K (.ref f15) = true)
  (a16 : PySem.W.nsIn K mainGlobals "faces" = some (some (.ref f16))) (l16 : K.lookup f16 = some ⟨oc16, od16, .func (PySem.W.fnOf "faces" "faces" (defArgs (top 23)) (defBody (top 23)) (defScope (top 23)) .none kV16 dc16 pm16 an16 cd16 ct16), sl16⟩) (c16 : PySem.W.codeIn K cd16 "faces" = true) (k16 : PySem.W.keepIn K (.ref f16) = true)
  (a17 : PySem.W.nsIn K mainGlobals "frozen" = some (some (.ref f17))) (l17 : K.lookup f17 = some ⟨oc17, od17, .func (PySem.W.fnOf "frozen" "frozen" (defArgs (top 25)) (defBody (top 25)) (defScope (top 25)) .none kV17 dc17 pm17 an17 cd17 ct17), sl17⟩) (c17 : PySem.W.codeIn K cd17 "frozen" = true) (k17 : PySem.W.keepIn K (.ref f17) = true)
  (a18 : PySem.W.nsIn K mainGlobals "_law_next" = some (some (.ref f18))) (l18 : K.lookup f18 = some ⟨oc18, od18, .func (PySem.W.fnOf "_law_next" "_law_next" (defArgs (top 28)) (defBody (top 28)) (defScope (top 28)) .none kV18 dc18 pm18 an18 cd18 ct18), sl18⟩) (c18 : PySem.W.codeIn K cd18 "_law_next" = true) (k18 : PySem.W.keepIn K (.ref f18) = true)
  (a19 : PySem.W.nsIn K mainGlobals "_law_same" = some (some (.ref f19))) (l19 : K.lookup f19 = some ⟨oc19, od19, .func (PySem.W.fnOf "_law_same" "_law_same" (defArgs (top 29)) (defBody (top 29)) (defScope (top 29)) .none kV19 dc19 pm19 an19 cd19 ct19), sl19⟩) (c19 : PySem.W.codeIn K cd19 "_law_same" = true) (k19 : PySem.W.keepIn K (.ref f19) = true)
  (a20 : PySem.W.nsIn K mainGlobals "_law_power" = some (some (.ref f20))) (l20 : K.lookup f20 = some ⟨oc20, od20, .func (PySem.W.fnOf "_law_power" "_law_power" (defArgs (top 30)) (defBody (top 30)) (defScope (top 30)) .none kV20 dc20 pm20 an20 cd20 ct20), sl20⟩) (c20 : PySem.W.codeIn K cd20 "_law_power" = true) (k20 : PySem.W.keepIn K (.ref f20) = true)
  (a21 : PySem.W.nsIn K mainGlobals "_law_wide" = some (some (.ref f21))) (l21 : K.lookup f21 = some ⟨oc21, od21, .func (PySem.W.fnOf "_law_wide" "_law_wide" (defArgs (top 31)) (defBody (top 31)) (defScope (top 31)) .none kV21 dc21 pm21 an21 cd21 ct21), sl21⟩) (c21 : PySem.W.codeIn K cd21 "_law_wide" = true) (k21 : PySem.W.keepIn K (.ref f21) = true)
  (a22 : PySem.W.nsIn K mainGlobals "_law_wide_by" = some (some (.ref f22))) (l22 : K.lookup f22 = some ⟨oc22, od22, .func (PySem.W.fnOf "_law_wide_by" "_law_wide_by" (defArgs (top 32)) (defBody (top 32)) (defScope (top 32)) .none kV22 dc22 pm22 an22 cd22 ct22), sl22⟩) (c22 : PySem.W.codeIn K cd22 "_law_wide_by" = true) (k22 : PySem.W.keepIn K (.ref f22) = true)
  (a23 : PySem.W.nsIn K mainGlobals "_law_thing" = some (some (.ref f23))) (l23 : K.lookup f23 = some ⟨oc23, od23, .func (PySem.W.fnOf "_law_thing" "_law_thing" (defArgs (top 33)) (defBody (top 33)) (defScope (top 33)) .none kV23 dc23 pm23 an23 cd23 ct23), sl23⟩) (c23 : PySem.W.codeIn K cd23 "_law_thing" = true) (k23 : PySem.W.keepIn K (.ref f23) = true)
  (a24 : PySem.W.nsIn K mainGlobals "_law_expr_by" = some (some (.ref f24))) (l24 : K.lookup f24 = some ⟨oc24, od24, .func (PySem.W.fnOf "_law_expr_by" "_law_expr_by" (defArgs (top 34)) (defBody (top 34)) (defScope (top 34)) .none kV24 dc24 pm24 an24 cd24 ct24), sl24⟩) (c24 : PySem.W.codeIn K cd24 "_law_expr_by" = true) (k24 : PySem.W.keepIn K (.ref f24) = true)
  (a25 : PySem.W.nsIn K mainGlobals "_law_line" = some (some (.ref f25))) (l25 : K.lookup f25 = some ⟨oc25, od25, .func (PySem.W.fnOf "_law_line" "_law_line" (defArgs (top 35)) (defBody (top 35)) (defScope (top 35)) .none kV25 dc25 pm25 an25 cd25 ct25), sl25⟩) (c25 : PySem.W.codeIn K cd25 "_law_line" = true) (k25 : PySem.W.keepIn K (.ref f25) = true)
  (a26 : PySem.W.nsIn K mainGlobals "_law_asked" = some (some (.ref f26))) (l26 : K.lookup f26 = some ⟨oc26, od26, .func (PySem.W.fnOf "_law_asked" "_law_asked" (defArgs (top 36)) (defBody (top 36)) (defScope (top 36)) .none kV26 dc26 pm26 an26 cd26 ct26), sl26⟩) (c26 : PySem.W.codeIn K cd26 "_law_asked" = true) (k26 : PySem.W.keepIn K (.ref f26) = true)
  (a27 : PySem.W.nsIn K mainGlobals "law" = some (some (.ref f27))) (l27 : K.lookup f27 = some ⟨oc27, od27, .func (PySem.W.fnOf "law" "law" (defArgs (top 37)) (defBody (top 37)) (defScope (top 37)) .none kV27 dc27 pm27 an27 cd27 ct27), sl27⟩) (c27 : PySem.W.codeIn K cd27 "law" = true) (k27 : PySem.W.keepIn K (.ref f27) = true)
  (a28 : PySem.W.findIn K (.ref CS) "__init__" = some (some (.ref f28))) (l28 : K.lookup f28 = some ⟨oc28, od28, .func (PySem.W.fnOf "__init__" "Sense.__init__" (defArgs (inClass (top 5) 0)) (defBody (inClass (top 5) 0)) (defScope (inClass (top 5) 0)) .none kV28 dc28 pm28 an28 cd28 ct28), sl28⟩) (c28 : PySem.W.codeIn K cd28 "Sense.__init__" = true) (k28 : PySem.W.keepIn K (.ref f28) = true) (i28 : PySem.W.isFn K (.ref f28) = true)
  (a29 : PySem.W.findIn K (.ref CM) "__init__" = some (some (.ref f29))) (l29 : K.lookup f29 = some ⟨oc29, od29, .func (PySem.W.fnOf "__init__" "Module.__init__" (defArgs (inClass (top 26) 0)) (defBody (inClass (top 26) 0)) (defScope (inClass (top 26) 0)) .none kV29 dc29 pm29 an29 cd29 ct29), sl29⟩) (c29 : PySem.W.codeIn K cd29 "Module.__init__" = true) (k29 : PySem.W.keepIn K (.ref f29) = true) (i29 : PySem.W.isFn K (.ref f29) = true)
  (a30 : PySem.W.findIn K (.ref ENoSense) "__init__" = some (some (.ref f30))) (l30 : K.lookup f30 = some ⟨oc30, od30, .func (PySem.W.fnOf "__init__" "NoSense.__init__" (defArgs (inClass (top 2) 0)) (defBody (inClass (top 2) 0)) (defScope (inClass (top 2) 0)) .none kV30 dc30 pm30 an30 cd30 ct30), sl30⟩) (c30 : PySem.W.codeIn K cd30 "NoSense.__init__" = true) (k30 : PySem.W.keepIn K (.ref f30) = true) (i30 : PySem.W.isFn K (.ref f30) = true)
  (pgS : PySem.W.plainGet K CS Str.empty = true) (hdS : PySem.W.hasDictIn K CS = true) (poS : PySem.W.plainOver K CS = true) (saS : PySem.W.findIn K (.ref CS) "__setattr__" = some (some (.builtin "object.__setattr__"))) (mkS : PySem.W.makesIn K CS = true) (kcS : PySem.W.keepIn K (.ref CS) = true)
  (nS_above : PySem.W.findIn K (.ref CS) "above" = some none)
  (nS_ins : PySem.W.findIn K (.ref CS) "ins" = some none)
  (nS_wides : PySem.W.findIn K (.ref CS) "wides" = some none)
  (nS_uses : PySem.W.findIn K (.ref CS) "uses" = some none)
  (nS_keepers : PySem.W.findIn K (.ref CS) "keepers" = some none)
  (nS_nexts : PySem.W.findIn K (.ref CS) "nexts" = some none)
  (nS_outs : PySem.W.findIn K (.ref CS) "outs" = some none)
  (pgM : PySem.W.plainGet K CM Str.empty = true) (hdM : PySem.W.hasDictIn K CM = true) (poM : PySem.W.plainOver K CM = true) (saM : PySem.W.findIn K (.ref CM) "__setattr__" = some (some (.builtin "object.__setattr__"))) (mkM : PySem.W.makesIn K CM = true) (kcM : PySem.W.keepIn K (.ref CM) = true)
  (nM_name : PySem.W.findIn K (.ref CM) "name" = some none)
  (nM_rows : PySem.W.findIn K (.ref CM) "rows" = some none)
  (z_len : PySem.W.nsIn K mainGlobals "len" = some none)
  (z_range : PySem.W.nsIn K mainGlobals "range" = some none)
  (z_int : PySem.W.nsIn K mainGlobals "int" = some none)
  (z_str : PySem.W.nsIn K mainGlobals "str" = some none)
  (z_isinstance : PySem.W.nsIn K mainGlobals "isinstance" = some none)
  (z_zip : PySem.W.nsIn K mainGlobals "zip" = some none)
  (z_list : PySem.W.nsIn K mainGlobals "list" = some none)
  (z_tuple : PySem.W.nsIn K mainGlobals "tuple" = some none)
  (z_dict : PySem.W.nsIn K mainGlobals "dict" = some none)
  (z_bool : PySem.W.nsIn K mainGlobals "bool" = some none)
  (z_all : PySem.W.nsIn K mainGlobals "all" = some none)
  (z_enumerate : PySem.W.nsIn K mainGlobals "enumerate" = some none)
  (z_max : PySem.W.nsIn K mainGlobals "max" = some none)
  (z_min : PySem.W.nsIn K mainGlobals "min" = some none)
  (z_sum : PySem.W.nsIn K mainGlobals "sum" = some none)
  (xhd : PySem.W.hasDictIn K ENoSense = true) (xsa : PySem.W.findIn K (.ref ENoSense) "__setattr__" = some (some (.builtin "object.__setattr__"))) (xkc : PySem.W.keepIn K (.ref ENoSense) = true) (xna : PySem.W.findIn K (.ref ENoSense) "line" = some none)
  (fhg : PySem.W.specialIn K (.ref EFloorError) "__getattribute__" = some (some (.builtin "type.__getattribute__"))) (frd : PySem.W.readsIn K EFloorError (.type "type") = true) (ffd : PySem.W.findCls K (.ref EFloorError) (.type "type") "__init__" = some (.val (.builtin "ValueError.__init__")))
  (xcR : XB K ENoSense) (xcF : XB K EFloorError) (xsb : PySem.W.mroIn K ENoSense (.ref EFloorError) = some true)
  (xga : PySem.W.findIn K (.ref ENoSense) "__getattribute__" = some (some (.builtin "BaseException.__getattribute__"))) (xgt : PySem.W.findIn K (.ref ENoSense) "__getattr__" = some none) (xcl : PySem.W.findIn K (.ref ENoSense) "__class__" = some (some (.builtin "object.__class__")))
  (xsg : PySem.W.specialIn K (.builtin "object.__class__") "__get__" = some (some (.builtin "getset_descriptor.__get__"))) (xtk : PySem.W.takesIn K (.builtin "object.__class__") = some true) (xmo : PySem.W.mroIn K ENoSense (.type "object") = some true)
  (w_V : PySem.W.kitOne K (.ref ENoSense) (.type "ValueError") = some true)
  {ti_WIDEST : Tok} (ai_WIDEST : PySem.W.nsIn K mainGlobals "WIDEST" = some (some (.int 16 ti_WIDEST)))
  {tk : Addr} {tkv : List (Key × V)} (aTK : PySem.W.nsIn K mainGlobals "TAKERS" = some (some (.ref tk)))
  (hKD : KD l.prog w K tk tkv)
  (hT_in : valV tkv (Sum.inr "in") = some (.ref f7))
  (hT_keep : valV tkv (Sum.inr "keep") = some (.ref f8))
  (hT_let : valV tkv (Sum.inr "let") = some (.ref f9))
  (hT_use : valV tkv (Sum.inr "use") = some (.ref f10))
  (hT_next : valV tkv (Sum.inr "next") = some (.ref f11))
  (hT_out : valV tkv (Sum.inr "out") = some (.ref f12))
  (ndT : [f7, f8, f9, f10, f11, f12].Nodup)
  (xsT : PySem.W.mroIn K ENoSense (.ref ENoSense) = some true) :
  ∃ fd : FuncData, (∀ (s : Shared) (v : Value), BindsTo s fd ⟨[v], []⟩ [("_law_script", v)]) ∧ ∀ base : Heap, K.In base → base.Ns mainGlobals mg → FnOk l.prog w K mg base CX0 11 fa fd ["_law_script"] (spLaw K) := by
 have e := hfa.symm.trans (PySem.W.mg_of X G a27)
 cases e
 have F0 := zabk (st := top 6) l0 c0 k0
 have b0 := F0.binds (ps := ["wide"]) fun _ _ _ _ _ _ us hl => match us, hl with | [_], _ => rfl
 have m0 := PySem.W.mg_of X G a0
 have F1 := zabk (st := top 7) l1 c1 k1
 have b1 := F1.binds (ps := ["value", "wide"]) fun _ _ _ _ _ _ us hl => match us, hl with | [_, _], _ => rfl
 have m1 := PySem.W.mg_of X G a1
 have F2 := zabk (st := top 8) l2 c2 k2
 have b2 := F2.binds (ps := ["sense", "expr"]) fun _ _ _ _ _ _ us hl => match us, hl with | [_, _], _ => rfl
 have m2 := PySem.W.mg_of X G a2
 have F3 := zabk (st := top 9) l3 c3 k3
 have b3 := F3.binds (ps := ["sense", "use", "out"]) fun _ _ _ _ _ _ us hl => match us, hl with | [_, _, _], _ => rfl
 have m3 := PySem.W.mg_of X G a3
 have F4 := zabk (st := top 10) l4 c4 k4
 have b4 := F4.binds (ps := ["whole", "low", "wide"]) fun _ _ _ _ _ _ us hl => match us, hl with | [_, _, _], _ => rfl
 have m4 := PySem.W.mg_of X G a4
 have F5 := zabk (st := top 11) l5 c5 k5
 have b5 := F5.binds (ps := ["word", "wides"]) fun _ _ _ _ _ _ us hl => match us, hl with | [_, _], _ => rfl
 have m5 := PySem.W.mg_of X G a5
 have F6 := zabk (st := top 12) l6 c6 k6
 have b6 := F6.binds (ps := ["sense", "name"]) fun _ _ _ _ _ _ us hl => match us, hl with | [_, _], _ => rfl
 have m6 := PySem.W.mg_of X G a6
 have F7 := zabk (st := top 13) l7 c7 k7
 have b7 := F7.binds (ps := ["sense", "row"]) fun _ _ _ _ _ _ us hl => match us, hl with | [_, _], _ => rfl
 have m7 := PySem.W.mg_of X G a7
 have F8 := zabk (st := top 14) l8 c8 k8
 have b8 := F8.binds (ps := ["sense", "row"]) fun _ _ _ _ _ _ us hl => match us, hl with | [_, _], _ => rfl
 have m8 := PySem.W.mg_of X G a8
 have F9 := zabk (st := top 15) l9 c9 k9
 have b9 := F9.binds (ps := ["sense", "row"]) fun _ _ _ _ _ _ us hl => match us, hl with | [_, _], _ => rfl
 have m9 := PySem.W.mg_of X G a9
 have F10 := zabk (st := top 16) l10 c10 k10
 have b10 := F10.binds (ps := ["sense", "row"]) fun _ _ _ _ _ _ us hl => match us, hl with | [_, _], _ => rfl
 have m10 := PySem.W.mg_of X G a10
 have F11 := zabk (st := top 17) l11 c11 k11
 have b11 := F11.binds (ps := ["sense", "row"]) fun _ _ _ _ _ _ us hl => match us, hl with | [_, _], _ => rfl
 have m11 := PySem.W.mg_of X G a11
 have F12 := zabk (st := top 18) l12 c12 k12
 have b12 := F12.binds (ps := ["sense", "row"]) fun _ _ _ _ _ _ us hl => match us, hl with | [_, _], _ => rfl
 have m12 := PySem.W.mg_of X G a12
 have F13 := zabk (st := top 20) l13 c13 k13
 have b13 := F13.binds (ps := ["module", "above", "line"]) fun _ _ _ _ _ _ us hl => match us, hl with | [_, _, _], _ => rfl
 have m13 := PySem.W.mg_of X G a13
 have F14 := zabk (st := top 21) l14 c14 k14
 have b14 := F14.binds (ps := ["modules"]) fun _ _ _ _ _ _ us hl => match us, hl with | [_], _ => rfl
 have m14 := PySem.W.mg_of X G a14
 have F15 := zabk (st := top 22) l15 c15 k15
 have b15 := F15.binds (ps := ["modules"]) fun _ _ _ _ _ _ us hl => match us, hl with | [_], _ => rfl
 have m15 := PySem.W.mg_of X G a15
 have F16 := zabk (st := top 23) l16 c16 k16
 have b16 := F16.binds (ps := ["modules"]) fun _ _ _ _ _ _ us hl => match us, hl with | [_], _ => rfl
 have m16 := PySem.W.mg_of X G a16
 have F17 := zabk (st := top 25) l17 c17 k17
 have b17 := F17.binds (ps := ["thing"]) fun _ _ _ _ _ _ us hl => match us, hl with | [_], _ => rfl
 have m17 := PySem.W.mg_of X G a17
 have F18 := zabk (st := top 28) l18 c18 k18
 have b18 := F18.binds (ps := ["_law_script", "_law_at"]) fun _ _ _ _ _ _ us hl => match us, hl with | [_, _], _ => rfl
 have m18 := PySem.W.mg_of X G a18
 have F19 := zabk (st := top 29) l19 c19 k19
 have b19 := F19.binds (ps := ["_law_found", "_law_due"]) fun _ _ _ _ _ _ us hl => match us, hl with | [_, _], _ => rfl
 have m19 := PySem.W.mg_of X G a19
 have F20 := zabk (st := top 30) l20 c20 k20
 have b20 := F20.binds (ps := ["_law_wide_here"]) fun _ _ _ _ _ _ us hl => match us, hl with | [_], _ => rfl
 have m20 := PySem.W.mg_of X G a20
 have F21 := zabk (st := top 31) l21 c21 k21
 have b21 := F21.binds (ps := ["_law_expr", "_law_widths", "_law_used"]) fun _ _ _ _ _ _ us hl => match us, hl with | [_, _, _], _ => rfl
 have m21 := PySem.W.mg_of X G a21
 have F22 := zabk (st := top 32) l22 c22 k22
 have b22 := F22.binds (ps := ["_law_m"]) fun _ _ _ _ _ _ us hl => match us, hl with | [_], _ => rfl
 have m22 := PySem.W.mg_of X G a22
 have F23 := zabk (st := top 33) l23 c23 k23
 have b23 := F23.binds (ps := ["_law_script", "_law_at", "_law_wide_here", "_law_place"]) fun _ _ _ _ _ _ us hl => match us, hl with | [_, _, _, _], _ => rfl
 have m23 := PySem.W.mg_of X G a23
 have F24 := zabk (st := top 34) l24 c24 k24
 have b24 := F24.binds (ps := ["_law_script", "_law_at"]) fun _ _ _ _ _ _ us hl => match us, hl with | [_, _], _ => rfl
 have m24 := PySem.W.mg_of X G a24
 have F25 := zabk (st := top 35) l25 c25 k25
 have b25 := F25.binds (ps := ["_law_modules"]) fun _ _ _ _ _ _ us hl => match us, hl with | [_], _ => rfl
 have m25 := PySem.W.mg_of X G a25
 have F26 := zabk (st := top 36) l26 c26 k26
 have b26 := F26.binds (ps := ["_law_helpers", "_law_rows", "_law_expr", "_law_wide_here", "_law_m"]) fun _ _ _ _ _ _ us hl => match us, hl with | [_, _, _, _, _], _ => rfl
 have m26 := PySem.W.mg_of X G a26
 have F27 := zabk (st := top 37) l27 c27 k27
 have F28 := zabk (st := inClass (top 5) 0) l28 c28 k28
 have b28 := F28.binds (ps := ["self", "above"]) fun _ _ _ _ _ _ us hl => match us, hl with | [_, _], _ => rfl
 have F29 := zabk (st := inClass (top 26) 0) l29 c29 k29
 have b29 := F29.binds (ps := ["self", "name", "rows"]) fun _ _ _ _ _ _ us hl => match us, hl with | [_, _, _], _ => rfl
 have F30 := zabk (st := inClass (top 2) 0) l30 c30 k30
 have b30 := F30.binds (ps := ["self", "line"]) fun _ _ _ _ _ _ us hl => match us, hl with | [_, _], _ => rfl
 have z_len := PySem.W.mg_none_of X G z_len
 have z_range := PySem.W.mg_none_of X G z_range
 have z_int := PySem.W.mg_none_of X G z_int
 have z_str := PySem.W.mg_none_of X G z_str
 have z_isinstance := PySem.W.mg_none_of X G z_isinstance
 have z_zip := PySem.W.mg_none_of X G z_zip
 have z_list := PySem.W.mg_none_of X G z_list
 have z_tuple := PySem.W.mg_none_of X G z_tuple
 have z_dict := PySem.W.mg_none_of X G z_dict
 have z_bool := PySem.W.mg_none_of X G z_bool
 have z_all := PySem.W.mg_none_of X G z_all
 have z_enumerate := PySem.W.mg_none_of X G z_enumerate
 have z_max := PySem.W.mg_none_of X G z_max
 have z_min := PySem.W.mg_none_of X G z_min
 have z_sum := PySem.W.mg_none_of X G z_sum
 have m_FloorError := PySem.W.mg_of X G eFloorError
 have m_NoSense := PySem.W.mg_of X G eNoSense
 have mS := PySem.W.mg_of X G aS
 have clS : Cls K CS := ⟨pgS, hdS, poS, saS⟩
 have mM := PySem.W.mg_of X G aM
 have clM : Cls K CM := ⟨pgM, hdM, poM, saM⟩
 have m_WIDEST : ∃ t, mg "WIDEST" = some (.int 16 t) := ⟨_, PySem.W.mg_of X G ai_WIDEST⟩
 have XR : XB K ENoSense := xcR
 have XF : XB K EFloorError := xcF
 have xa : XA K ENoSense := ⟨XR, xga, xgt, xcl, xsg, xtk, xmo, zarb xmo⟩
 have sub : XSub K ENoSense EFloorError := zali xsb
 refine ⟨PySem.W.fnOf "law" "law" (defArgs (top 37)) (defBody (top 37)) (defScope (top 37)) .none kV27 dc27 pm27 an27 cd27 ct27, fun s v => .of_eq rfl, fun base _ _ => ?_⟩
 have m_TAKERS := PySem.W.mg_of X G aTK
 have D_is_wide_1 : DefOk l.prog w K mg base CX0 1 "is_wide" ["wide"] spIsW := ⟨f0, _, zaqi (k := 0) F0 m_WIDEST, b0, k0, m0⟩
 have D_is_of_width_2 : DefOk l.prog w K mg base CX0 2 "is_of_width" ["value", "wide"] spOfW := ⟨f1, _, zaqj (k := 1) F1 D_is_wide_1, b1, k1, m1⟩
 have D_wide_of_part_1 : DefOk l.prog w K mg base CX0 1 "wide_of_part" ["whole", "low", "wide"] spPart := ⟨f4, _, zaon (k := 0) F4, b4, k4, m4⟩
 have D_wide_of_word_2 : DefOk l.prog w K mg base CX0 2 "wide_of_word" ["word", "wides"] spWord := ⟨f5, _, zaoo (k := 1) F5 D_is_wide_1 z_sum, b5, k5, m5⟩
 have D_wide_of_out_1 : DefOk l.prog w K mg base CX0 1 "wide_of_out" ["sense", "use", "out"] (spOut CS) := ⟨f3, _, zaqk (k := 0) F3 clS nS_uses nS_outs, b3, k3, m3⟩
 have D0_wide_of_1 : DefOk l.prog w K mg base CX0 1 "wide_of" ["sense", "expr"] spF0 := ⟨f2, _, zaql (k := 0) F2, b2, k2, m2⟩
 have D1_wide_of_3 : DefOk l.prog w K mg base CX0 3 "wide_of" ["sense", "expr"] (spWL CS) := ⟨f2, _, zaqm (k := 2) F2 clS nS_wides (D0_wide_of_1.mono (by omega)) (D_wide_of_out_1.mono (by omega)) D_is_of_width_2 (D_wide_of_part_1.mono (by omega)) D_wide_of_word_2, b2, k2, m2⟩
 have D_wide_of_4 : DefOk l.prog w K mg base CX0 4 "wide_of" ["sense", "expr"] (spWE CS) := ⟨f2, _, zarr (k := 3) F2 clS nS_wides D1_wide_of_3 (D_wide_of_out_1.mono (by omega)) (D_is_of_width_2.mono (by omega)) (D_wide_of_part_1.mono (by omega)) (D_wide_of_word_2.mono (by omega)) (zaqm (k := 3) F2 clS nS_wides (D0_wide_of_1.mono (by omega)) (D_wide_of_out_1.mono (by omega)) (D_is_of_width_2.mono (by omega)) (D_wide_of_part_1.mono (by omega)) (D_wide_of_word_2.mono (by omega))), b2, k2, m2⟩
 have D_is_free_1 : DefOk l.prog w K mg base CX0 1 "is_free" ["sense", "name"] (spFree CS) := ⟨f6, _, zaor (k := 0) F6 clS nS_wides nS_uses, b6, k6, m6⟩
 simp only [List.nodup_cons, List.mem_cons, List.not_mem_nil, or_false, not_or, not_false_eq_true, List.nodup_nil, and_true] at ndT
 obtain ⟨⟨n1, n2, n3, n4, n5⟩, ⟨n6, n7, n8, n9⟩, ⟨n10, n11, n12⟩, ⟨n13, n14⟩, n15⟩ := ndT
 have s_in : sptO f7 f8 f9 f10 f11 CS f7 = spT "in" CS := by unfold sptO; rw [if_pos rfl]
 have s_keep : sptO f7 f8 f9 f10 f11 CS f8 = spT "keep" CS := by unfold sptO; rw [if_neg (Ne.symm n1), if_pos rfl]
 have s_let : sptO f7 f8 f9 f10 f11 CS f9 = spT "let" CS := by unfold sptO; rw [if_neg (Ne.symm n2), if_neg (Ne.symm n6), if_pos rfl]
 have s_use : sptO f7 f8 f9 f10 f11 CS f10 = spT "use" CS := by unfold sptO; rw [if_neg (Ne.symm n3), if_neg (Ne.symm n7), if_neg (Ne.symm n10), if_pos rfl]
 have s_next : sptO f7 f8 f9 f10 f11 CS f11 = spT "next" CS := by unfold sptO; rw [if_neg (Ne.symm n4), if_neg (Ne.symm n8), if_neg (Ne.symm n11), if_neg (Ne.symm n13), if_pos rfl]
 have s_out : sptO f7 f8 f9 f10 f11 CS f12 = spT "out" CS := by unfold sptO; rw [if_neg (Ne.symm n5), if_neg (Ne.symm n9), if_neg (Ne.symm n12), if_neg (Ne.symm n14), if_neg (Ne.symm n15)]
 have t_in : ∃ fd : FuncData, FnOk l.prog w K mg base CX0 5 f7 fd ["sense", "row"] (sptO f7 f8 f9 f10 f11 CS f7) ∧ Binds K fd ["sense", "row"] [] ∧ PySem.W.keepIn K (.ref f7) = true := ⟨_, by rw [s_in]; exact zaqn (k := 4) F7 clS nS_wides nS_ins (D_is_free_1.mono (by omega)) (D_is_wide_1.mono (by omega)), b7, k7⟩
 have t_keep : ∃ fd : FuncData, FnOk l.prog w K mg base CX0 5 f8 fd ["sense", "row"] (sptO f7 f8 f9 f10 f11 CS f8) ∧ Binds K fd ["sense", "row"] [] ∧ PySem.W.keepIn K (.ref f8) = true := ⟨_, by rw [s_keep]; exact zaqo (k := 4) F8 clS nS_wides nS_keepers (D_is_free_1.mono (by omega)) (D_is_of_width_2.mono (by omega)), b8, k8⟩
 have t_let : ∃ fd : FuncData, FnOk l.prog w K mg base CX0 5 f9 fd ["sense", "row"] (sptO f7 f8 f9 f10 f11 CS f9) ∧ Binds K fd ["sense", "row"] [] ∧ PySem.W.keepIn K (.ref f9) = true := ⟨_, by rw [s_let]; exact zaqp (k := 4) F9 clS nS_wides (D_is_free_1.mono (by omega)) D_wide_of_4, b9, k9⟩
 have t_use : ∃ fd : FuncData, FnOk l.prog w K mg base CX0 5 f10 fd ["sense", "row"] (sptO f7 f8 f9 f10 f11 CS f10) ∧ Binds K fd ["sense", "row"] [] ∧ PySem.W.keepIn K (.ref f10) = true := ⟨_, by rw [s_use]; exact zaqs (k := 4) F10 clS nS_uses nS_above nS_ins (D_is_free_1.mono (by omega)) D_wide_of_4, b10, k10⟩
 have t_next : ∃ fd : FuncData, FnOk l.prog w K mg base CX0 5 f11 fd ["sense", "row"] (sptO f7 f8 f9 f10 f11 CS f11) ∧ Binds K fd ["sense", "row"] [] ∧ PySem.W.keepIn K (.ref f11) = true := ⟨_, by rw [s_next]; exact zaqr (k := 4) F11 clS nS_wides nS_keepers nS_nexts D_wide_of_4, b11, k11⟩
 have t_out : ∃ fd : FuncData, FnOk l.prog w K mg base CX0 5 f12 fd ["sense", "row"] (sptO f7 f8 f9 f10 f11 CS f12) ∧ Binds K fd ["sense", "row"] [] ∧ PySem.W.keepIn K (.ref f12) = true := ⟨_, by rw [s_out]; exact zaqq (k := 4) F12 clS nS_outs D_wide_of_4, b12, k12⟩
 have TT : TabOk l.prog w K mg base CX0 5 ["sense", "row"] (sptO f7 f8 f9 f10 f11 CS) (fun f => f = f7 ∨ f = f8 ∨ f = f9 ∨ f = f10 ∨ f = f11 ∨ f = f12) := ⟨fun f hf => by
  rcases hf with h | h | h | h | h | h <;> rw [h]
  ·exact t_in
  ·exact t_keep
  ·exact t_let
  ·exact t_use
  ·exact t_next
  ·exact t_out⟩
 have hT : ∀ r : Rw9, ∃ f, valV tkv (.inr (rwW r)) = some (.ref f) ∧ (f = f7 ∨ f = f8 ∨ f = f9 ∨ f = f10 ∨ f = f11 ∨ f = f12) ∧ (sptO f7 f8 f9 f10 f11 CS) f = spT (rwW r) CS := fun r => by
  cases r with
  | inn a b => exact ⟨f7, hT_in, .inl rfl, s_in⟩
  | keep a b c => exact ⟨f8, hT_keep, .inr (.inl rfl), s_keep⟩
  | lt a b => exact ⟨f9, hT_let, .inr (.inr (.inl rfl)), s_let⟩
  | use a b => exact ⟨f10, hT_use, .inr (.inr (.inr (.inl rfl))), s_use⟩
  | nxt a b => exact ⟨f11, hT_next, .inr (.inr (.inr (.inr (.inl rfl)))), s_next⟩
  | out a b => exact ⟨f12, hT_out, .inr (.inr (.inr (.inr (.inr rfl)))), s_out⟩
 have xi : XI K ENoSense f30 := ⟨XR, xkc, a30, beq_iff_eq.mp i30, xhd, xmo, xsa⟩
 have ci : ClsIni K EFloorError := ⟨fhg, frd, ffd⟩
 have RT : RaiseOk l.prog w K mg base 1 "NoSense" ENoSense "line" := ⟨⟨f30, _, ["self", "line"], zars (k := 0) F30 xi xna m_FloorError ci, b30, xi, m_NoSense⟩⟩
 have subT : XSub K ENoSense ENoSense := zali xsT
 have MkS : MakeOk l.prog w K mg base CX0 1 CS "Sense" ["self", "above"] (spSn CS) := ⟨⟨f28, _, zart (k := 0) F28 clS nS_above nS_ins nS_wides nS_uses nS_keepers nS_nexts nS_outs, b28, ⟨mkS, a28, i28, kcS⟩, mS⟩⟩
 have DX_sense_of_module_6 : DefOk l.prog w K mg base (CXE l.prog w) 6 "sense_of_module" ["module", "above", "line"] (spSM CS CM ENoSense) := ⟨f13, _, zarw (k := 4) F13 clM nM_name nM_rows clS nS_outs nS_nexts nS_keepers (MkS.mono (by omega)) (RT.mono (by omega)) TT m_TAKERS hKD hT z_enumerate z_len, b13, k13, m13⟩
 have DX_top_sense_7 : DefOk l.prog w K mg base (CXE l.prog w) 7 "top_sense" ["modules"] (spTS CS CM ENoSense) := ⟨f14, _, zaqu (k := 5) F14 clM nM_name nM_rows DX_sense_of_module_6 (RT.mono (by omega)) z_len, b14, k14, m14⟩
 have D_top_sense_7 : DefOk l.prog w K mg base CX0 7 "top_sense" ["modules"] (fun vs H Q _ => spTS CS CM ENoSense vs H Q E0) := ⟨f14, _, (zaqu (k := 5) F14 clM nM_name nM_rows DX_sense_of_module_6 (RT.mono (by omega)) z_len).calm (fun _ _ _ _ h => h), b14, k14, m14⟩
 have DX_ask_sense_8 : DefOk l.prog w K mg base (CXE l.prog w) 8 "ask_sense" ["modules"] (spAsk CM ENoSense) := ⟨f15, _, zaqv (k := 7) F15 DX_top_sense_7, b15, k15, m15⟩
 have D_faces_8 : DefOk l.prog w K mg base CX0 8 "faces" ["modules"] (spFac CM) := ⟨f16, _, zaqw (k := 7) F16 clS nS_ins nS_outs D_top_sense_7 z_list, b16, k16, m16⟩
 have Dfz : ∀ N : Nat, DefOk l.prog w K mg base CX0 (1 + N) "frozen" ["thing"] (spFz N) := fun N => by
  induction N with
  | zero => exact ⟨f17, _, zaqt (k := 0) F17, b17, k17, m17⟩
  | succ N ih => exact ⟨f17, _, zaru (k := 1 + N) N F17 ih z_isinstance z_list z_tuple, b17, k17, m17⟩
 have MkM : MakeOk l.prog w K mg base CX0 7 CM "Module" ["self", "name", "rows"] (spMo CM 5) := ⟨⟨f29, _, zarv (k := 6) F29 clM nM_name nM_rows (Dfz 5), b29, ⟨mkM, a29, i29, kcM⟩, mM⟩⟩
 have D__law_next_1 : DefOk l.prog w K mg base CX0 1 "_law_next" ["_law_script", "_law_at"] (spNext K) := ⟨f18, _, zaoy (k := 0) F18 z_len z_range, b18, k18, m18⟩
 have D0__law_same_1 : DefOk l.prog w K mg base CX0 1 "_law_same" ["_law_found", "_law_due"] (spSame 0) := ⟨f19, _, zaml (k := 0) F19, b19, k19, m19⟩
 have D1__law_same_2 : DefOk l.prog w K mg base CX0 2 "_law_same" ["_law_found", "_law_due"] (spSame 1) := ⟨f19, _, zaio (k := 1) 0 F19 D0__law_same_1 z_isinstance z_dict z_list z_tuple z_str z_int z_bool z_len z_all z_zip, b19, k19, m19⟩
 have D2__law_same_3 : DefOk l.prog w K mg base CX0 3 "_law_same" ["_law_found", "_law_due"] (spSame 2) := ⟨f19, _, zaio (k := 2) 1 F19 D1__law_same_2 z_isinstance z_dict z_list z_tuple z_str z_int z_bool z_len z_all z_zip, b19, k19, m19⟩
 have D3__law_same_4 : DefOk l.prog w K mg base CX0 4 "_law_same" ["_law_found", "_law_due"] (spSame 3) := ⟨f19, _, zaio (k := 3) 2 F19 D2__law_same_3 z_isinstance z_dict z_list z_tuple z_str z_int z_bool z_len z_all z_zip, b19, k19, m19⟩
 have D__law_power_1 : DefOk l.prog w K mg base CX0 1 "_law_power" ["_law_wide_here"] spPow := ⟨f20, _, zaq0 (k := 0) F20 z_range, b20, k20, m20⟩
 have D__law_wide_by_1 : DefOk l.prog w K mg base CX0 1 "_law_wide_by" ["_law_m"] spWB := ⟨f22, _, zar0 (k := 0) F22, b22, k22, m22⟩
 have D__law_thing_2 : DefOk l.prog w K mg base CX0 2 "_law_thing" ["_law_script", "_law_at", "_law_wide_here", "_law_place"] (spThi K) := ⟨f23, _, zaq4 (k := 1) F23 D__law_next_1, b23, k23, m23⟩
 have D__law_expr_by_3 : DefOk l.prog w K mg base CX0 3 "_law_expr_by" ["_law_script", "_law_at"] (spEx K) := ⟨f24, _, zar2 (k := 2) F24 (D__law_next_1.mono (by omega)) (D__law_power_1.mono (by omega)) (D__law_wide_by_1.mono (by omega)) D__law_thing_2 z_range z_max z_min z_enumerate z_tuple, b24, k24, m24⟩
 have D0__law_wide_1 : DefOk l.prog w K mg base CX0 1 "_law_wide" ["_law_expr", "_law_widths", "_law_used"] spL0 := ⟨f21, _, zar3 (k := 0) F21, b21, k21, m21⟩
 have D1__law_wide_2 : DefOk l.prog w K mg base CX0 2 "_law_wide" ["_law_expr", "_law_widths", "_law_used"] spL1 := ⟨f21, _, zar4 (k := 1) F21 D0__law_wide_1 D__law_power_1 z_int z_min z_sum z_len z_isinstance z_tuple, b21, k21, m21⟩
 have D__law_wide_3 : DefOk l.prog w K mg base CX0 3 "_law_wide" ["_law_expr", "_law_widths", "_law_used"] spL2 := ⟨f21, _, zar5 (k := 2) F21 D1__law_wide_2 (D__law_power_1.mono (by omega)) z_int z_min z_sum z_len z_isinstance z_tuple, b21, k21, m21⟩
 have D__law_line_9 : DefOk l.prog w K mg base CX0 9 "_law_line" ["_law_modules"] (spLine CM) := ⟨f25, _, zao0 (k := 8) F25 DX_ask_sense_8 m_NoSense XR xa subT xhd xna, b25, k25, m25⟩
 have D__law_asked_10 : DefOk l.prog w K mg base CX0 10 "_law_asked" ["_law_helpers", "_law_rows", "_law_expr", "_law_wide_here", "_law_m"] (spAsked CM) := ⟨f26, _, zamo (k := 8) F26 clM nM_rows (MkM.mono (by omega)) D__law_line_9 (D3__law_same_4.mono (by omega)) (D_faces_8.mono (by omega)) z_len z_sum, b26, k26, m26⟩
 exact zara (k := 9) F27 (MkM.mono (by omega)) (D__law_next_1.mono (by omega)) (D__law_expr_by_3.mono (by omega)) (D__law_wide_3.mono (by omega)) D__law_asked_10 z_range
end

end B17
namespace B17
open PySem L2
theorem zar9 {K : PySem.W.Frag} {C CF N : Addr} {dd ddN : Option Addr} {cd : ClassData} {sl slN : Array (Option Value)} {k0 k1 k2 k3 k5 : Option Value} {cN : Value} {es : Array DictEntry} {ep : Nat} (xF : L2.XC K CF) (l : K.lookup C = some ⟨.type "type", dd, .cls cd, sl⟩) (hm : cd.mro = .ref C :: .ref CF :: bmV)
  (hs : sl.toList = [k0, k1, k2, k3, some (.builtin "ValueError.__new__"), k5]) (hd : cd.hasDel = false) (hN : cd.ns = N) (lN : K.lookup N = some ⟨cN, ddN, .dict es ep, slN⟩) (he : (es.toList.all fun e => match e.key with | .str _ _ => true | _ => false) = true) : XB K C := by
 have t0 : PySem.W.tailIn K bmV bmV = true := rfl
 have t1 : PySem.W.tailIn K bmV (.ref CF :: bmV) = true := by
  have xF : PySem.W.excIn K CF bmV "ValueError.__new__" = true := xF
  unfold PySem.W.excIn at xF
  unfold PySem.W.tailIn
  split at xF
  case h_2 => cases xF
  case h_1 ddF cF slF ho =>
   split at xF
   case h_2 => cases xF
   case h_1 C' bm k0 k1 k2 k3 n k5 hm hs =>
    simp only [Bool.and_eq_true] at xF
    dsimp only
    rw [ho]
    simp only [xF.1.2, xF.2, t0, Bool.and_self, Bool.or_true]
 have t2 : PySem.W.nsOkIn K cd.ns = true := by
  unfold PySem.W.nsOkIn
  rw [hN, lN]
  rw [Array.all_toList] at he
  exact he
 unfold XB
 rw [l]
 show (match cd.mro, sl.toList with
  | .ref C' :: bm, [_, _, _, _, some (.builtin n), _] => C' == C && n == "ValueError.__new__" && !cd.hasDel && PySem.W.tailIn K bmV bm && PySem.W.nsOkIn K cd.ns
  | _, _ => false) = true
 rw [hm, hs]
 show (C == C && "ValueError.__new__" == "ValueError.__new__" && !cd.hasDel && PySem.W.tailIn K bmV (.ref CF :: bmV) && PySem.W.nsOkIn K cd.ns) = true
 rw [t1, t2, hd]
 simp
def XS : List (Str × Tok × Value) := [("in", 374, .ref 121), ("keep", 375, .ref 128), ("let", 376, .ref 135), ("use", 377, .ref 140), ("next", 378, .ref 147), ("out", 379, .ref 154)]
def VS : List V := [.ref 121, .ref 128, .ref 135, .ref 140, .ref 147, .ref 154]
def KVS : List (Key × V) := (XS.map fun x => (Sum.inr x.1 : Key)).zip VS
theorem tkd {P : Program} {w : World} {K : PySem.W.Frag} {ff : Addr} {od : Option Addr} {ep : Nat} {sl : Array (Option Value)} {es : Array DictEntry} (l : K.lookup ff = some ⟨.type "dict", od, .dict es ep, sl⟩) (he : es.toList = XS.map (ent w))
  (hx : (⟨.type "dict", od, .dict es ep, sl⟩ : Obj).ExactDict) (ns : (ff == sysModules) = false) : KD P w K ff KVS := zarp XS VS l he hx ns (by decide +kernel) (.cons rfl (.cons rfl (.cons rfl (.cons rfl (.cons rfl (.cons rfl (.nil)))))))
theorem zasa : valV KVS (Sum.inr "in") = some (.ref 121) := by decide +kernel
theorem zao5 : valV KVS (Sum.inr "keep") = some (.ref 128) := by decide +kernel
theorem zard : valV KVS (Sum.inr "let") = some (.ref 135) := by decide +kernel
theorem zare : valV KVS (Sum.inr "use") = some (.ref 140) := by decide +kernel
theorem zao6 : valV KVS (Sum.inr "next") = some (.ref 147) := by decide +kernel
theorem zarf : valV KVS (Sum.inr "out") = some (.ref 154) := by decide +kernel
theorem zasb : ([121, 128, 135, 140, 147, 154] : List Addr).Nodup := by decide +kernel
end B17
open PySem PySem.W PyProof.Rows
theorem PySem.W.Fast.tw4303960189848757617 : True := trivial
theorem PySem.W.Fast.tw13069692283638578495 : True := trivial
theorem PySem.W.Fast.tw8688588026552796044 : True := trivial
theorem PySem.W.Fast.tw16794433638493604982 : True := trivial
theorem PySem.W.Fast.tw5595637492215328995 : True := trivial
theorem PySem.W.Fast.tw12123369384661080483 : True := trivial
theorem PySem.W.Fast.tw7033992555351000763 : True := trivial
theorem PySem.W.Fast.tw5362688655216131373 : True := trivial
theorem PySem.W.Fast.tw17769196217930021041 : True := trivial
theorem PySem.W.Fast.tw14823396496469463112 : True := trivial
theorem PySem.W.Fast.tw16521441953422324854 : True := trivial
theorem PySem.W.Fast.tw15573647107606923637 : True := trivial
theorem PySem.W.Fast.tw4420878049986315824 : True := trivial
theorem PySem.W.Fast.tw10046669681054169487 : True := trivial
theorem PySem.W.Fast.tw3609865548597076442 : True := trivial
theorem PySem.W.Fast.tw676419012344475149 : True := trivial
theorem PySem.W.Fast.tw11396203999444259784 : True := trivial
theorem PySem.W.Fast.tw1856544773260066293 : True := trivial
theorem PySem.W.Fast.tw6446940537150005931 : True := trivial
theorem PySem.W.Fast.tw8250562523125567170 : True := trivial
theorem PySem.W.Fast.tw1284205697839052797 : True := trivial
theorem PySem.W.Fast.tw1495879660785334525 : True := trivial
theorem PySem.W.Fast.tw2565254647411508843 : True := trivial
theorem PySem.W.Fast.tw11117477265356661674 : True := trivial
theorem PySem.W.Fast.tw2152052835542407226 : True := trivial
theorem PySem.W.Fast.tw15736443300968000969 : True := trivial
theorem PySem.W.Fast.tw10941483231829731572 : True := trivial
theorem PySem.W.Fast.tw9184442293359514108 : True := trivial
theorem PySem.W.Fast.tw8848341848470563687 : True := trivial
theorem PySem.W.Fast.tw13762177793555461369 : True := trivial
theorem PySem.W.Fast.tw12350019424949728806 : True := trivial
theorem PySem.W.Fast.tw1024256234253570939 : True := trivial
theorem PySem.W.Fast.tw4298014145977535032 : True := trivial
theorem PySem.W.Fast.tw18342141118160423868 : True := trivial
theorem PySem.W.Fast.tw5810704716337689439 : True := trivial
theorem PySem.W.Fast.tw3363587738785174109 : True := trivial
theorem PySem.W.Fast.tw629983269988444668 : True := trivial
theorem PySem.W.Fast.tw9126067346155624776 : True := trivial
theorem PySem.W.Fast.tw12844531699380210651 : True := trivial
theorem PySem.W.Fast.tw3496165973878937029 : True := trivial
theorem PySem.W.Fast.tw867422814380422866 : True := trivial
theorem PySem.W.Fast.tw16990431089624595488 : True := trivial
theorem PySem.W.Fast.tw10695193761576589062 : True := trivial
theorem PySem.W.Fast.tw9484657163477940813 : True := trivial
theorem PySem.W.Fast.tw5840457047644540918 : True := trivial
theorem PySem.W.Fast.tw7221743545058391858 : True := trivial
theorem PySem.W.Fast.tw15682218375728880223 : True := trivial
theorem PySem.W.Fast.tw17288150594484293394 : True := trivial
theorem PySem.W.Fast.tw11721064252084263738 : True := trivial
theorem PySem.W.Fast.tw310212800913685058 : True := trivial
theorem PySem.W.Fast.tw14846335118998687189 : True := trivial
theorem PySem.W.Fast.tw5698838876122188950 : True := trivial
theorem PySem.W.Fast.tw5516776745455229998 : True := trivial
theorem PySem.W.Fast.tw7397361913281304473 : True := trivial
theorem PySem.W.Fast.tw1247664536281778657 : True := trivial
theorem PySem.W.Fast.tw14165701895346265761 : True := trivial
theorem PySem.W.Fast.tw6645829723841517208 : True := trivial
theorem PySem.W.Fast.tw15141978562807613916 : True := trivial
theorem PySem.W.Fast.tw17045600681234481249 : True := trivial
theorem PySem.W.Fast.tw15489185023516652724 : True := trivial
theorem PySem.W.Fast.tw6483794431481121261 : True := trivial
theorem PySem.W.Fast.tw1801328058598918966 : True := trivial
theorem PySem.W.Fast.tw12036107411688799598 : True := trivial
theorem PySem.W.Fast.tw9233735273065249729 : True := trivial
theorem PySem.W.Fast.tw723819799959365364 : True := trivial
theorem PySem.W.Fast.tw13831074239858830517 : True := trivial
theorem PySem.W.Fast.tw11115617020404946059 : True := trivial
theorem PySem.W.Fast.tw574330785925166652 : True := trivial
theorem PySem.W.Fast.tw11206509463889475926 : True := trivial
theorem PySem.W.Fast.tw6900652393269881329 : True := trivial
theorem PySem.W.Fast.tw16041666951886707680 : True := trivial
set_option maxRecDepth 100000 in
set_option maxHeartbeats 0 in
theorem PySem.Challenge.cw_bitfloor_k09_widths_holds : PySem.Challenge.rw_bitfloor_k09_widths.Holds := by
 w_on; o_law; k_head; (case hw => w_witness2)
 k_fill
 refine L2.zalv (l := PySem.Challenge.rw_bitfloor_k09_widths) (n := 63) (k := 11) (x := "_law_script") (CX := L2.CX0) (sp := B17.spLaw) rfl (by decide) rfl ⟨rfl, by decide, by decide⟩ (fun w h Y => PySem.W.kIn_of Y) ?F ?S ?C
 case F =>
  intro w mg fa h KX G hmg
  refine' B17.zarc KX G hmg ?aS ?aM ?eFloorError ?eNoSense ?a0 ?l0 ?c0 ?k0 ?a1 ?l1 ?c1 ?k1 ?a2 ?l2 ?c2 ?k2 ?a3 ?l3 ?c3 ?k3 ?a4 ?l4 ?c4 ?k4 ?a5 ?l5 ?c5 ?k5 ?a6 ?l6 ?c6 ?k6 ?a7 ?l7 ?c7 ?k7 ?a8 ?l8 ?c8 ?k8 ?a9 ?l9 ?c9 ?k9 ?a10 ?l10 ?c10 ?k10 ?a11 ?l11 ?c11 ?k11 ?a12 ?l12 ?c12 ?k12 ?a13 ?l13 ?c13 ?k13 ?a14 ?l14 ?c14 ?k14 ?a15 ?l15 ?c15 ?k15 ?a16 ?l16 ?c16 ?k16 ?a17 ?l17 ?c17 ?k17 ?a18 ?l18 ?c18 ?k18 ?a19 ?l19 ?c19 ?k19 ?a20 ?l20 ?c20 ?k20 ?a21 ?l21 ?c21 ?k21 ?a22 ?l22 ?c22 ?k22 ?a23 ?l23 ?c23 ?k23 ?a24 ?l24 ?c24 ?k24 ?a25 ?l25 ?c25 ?k25 ?a26 ?l26 ?c26 ?k26 ?a27 ?l27 ?c27 ?k27 ?a28 ?l28 ?c28 ?k28 ?i28 ?a29 ?l29 ?c29 ?k29 ?i29 ?a30 ?l30 ?c30 ?k30 ?i30 ?pgS ?hdS ?poS ?saS ?mkS ?kcS ?nS_above ?nS_ins ?nS_wides ?nS_uses ?nS_keepers ?nS_nexts ?nS_outs ?pgM ?hdM ?poM ?saM ?mkM ?kcM ?nM_name ?nM_rows ?z_len ?z_range ?z_int ?z_str ?z_isinstance ?z_zip ?z_list ?z_tuple ?z_dict ?z_bool ?z_all ?z_enumerate ?z_max ?z_min ?z_sum ?xhd ?xsa ?xkc ?xna ?fhg ?frd ?ffd ?xcR ?xcF ?xsb ?xga ?xgt ?xcl ?xsg ?xtk ?xmo ?w_V ?ai_WIDEST ?qaTK (B17.tkd ?qlf ?qhe ?qhx ?qns) B17.zasa B17.zao5 B17.zard B17.zare B17.zao6 B17.zarf B17.zasb ?qxsT
  (case aS => k_is)
  (case aM => k_is)
  (case eFloorError => k_is)
  (case eNoSense => k_is)
  (case a0 => k_is)
  (case l0 => k_is)
  (case c0 => k_is)
  (case k0 => k_is)
  (case a1 => k_is)
  (case l1 => k_is)
  (case c1 => k_is)
  (case k1 => k_is)
  (case a2 => k_is)
  (case l2 => k_is)
  (case c2 => k_is)
  (case k2 => k_is)
  (case a3 => k_is)
  (case l3 => k_is)
  (case c3 => k_is)
  (case k3 => k_is)
  (case a4 => k_is)
  (case l4 => k_is)
  (case c4 => k_is)
  (case k4 => k_is)
  (case a5 => k_is)
  (case l5 => k_is)
  (case c5 => k_is)
  (case k5 => k_is)
  (case a6 => k_is)
  (case l6 => k_is)
  (case c6 => k_is)
  (case k6 => k_is)
  (case a7 => k_is)
  (case l7 => k_is)
  (case c7 => k_is)
  (case k7 => k_is)
  (case a8 => k_is)
  (case l8 => k_is)
  (case c8 => k_is)
  (case k8 => k_is)
  (case a9 => k_is)
  (case l9 => k_is)
  (case c9 => k_is)
  (case k9 => k_is)
  (case a10 => k_is)
  (case l10 => k_is)
  (case c10 => k_is)
  (case k10 => k_is)
  (case a11 => k_is)
  (case l11 => k_is)
  (case c11 => k_is)
  (case k11 => k_is)
  (case a12 => k_is)
  (case l12 => k_is)
  (case c12 => k_is)
  (case k12 => k_is)
  (case a13 => k_is)
  (case l13 => k_is)
  (case c13 => k_is)
  (case k13 => k_is)
  (case a14 => k_is)
  (case l14 => k_is)
  (case c14 => k_is)
  (case k14 => k_is)
  (case a15 => k_is)
  (case l15 => k_is)
  (case c15 => k_is)
  (case k15 => k_is)
  (case a16 => k_is)
  (case l16 => k_is)
  (case c16 => k_is)
  (case k16 => k_is)
  (case a17 => k_is)
  (case l17 => k_is)
  (case c17 => k_is)
  (case k17 => k_is)
  (case a18 => k_is)
  (case l18 => k_is)
  (case c18 => k_is)
  (case k18 => k_is)
  (case a19 => k_is)
  (case l19 => k_is)
  (case c19 => k_is)
  (case k19 => k_is)
  (case a20 => k_is)
  (case l20 => k_is)
  (case c20 => k_is)
  (case k20 => k_is)
  (case a21 => k_is)
  (case l21 => k_is)
  (case c21 => k_is)
  (case k21 => k_is)
  (case a22 => k_is)
  (case l22 => k_is)
  (case c22 => k_is)
  (case k22 => k_is)
  (case a23 => k_is)
  (case l23 => k_is)
  (case c23 => k_is)
  (case k23 => k_is)
  (case a24 => k_is)
  (case l24 => k_is)
  (case c24 => k_is)
  (case k24 => k_is)
  (case a25 => k_is)
  (case l25 => k_is)
  (case c25 => k_is)
  (case k25 => k_is)
  (case a26 => k_is)
  (case l26 => k_is)
  (case c26 => k_is)
  (case k26 => k_is)
  (case a27 => k_is)
  (case l27 => k_is)
  (case c27 => k_is)
  (case k27 => k_is)
  (case a28 => k_is)
  (case l28 => k_is)
  (case c28 => k_is)
  (case k28 => k_is)
  (case i28 => k_is)
  (case a29 => k_is)
  (case l29 => k_is)
  (case c29 => k_is)
  (case k29 => k_is)
  (case i29 => k_is)
  (case a30 => k_is)
  (case l30 => k_is)
  (case c30 => k_is)
  (case k30 => k_is)
  (case i30 => k_is)
  (case pgS => k_is)
  (case hdS => k_is)
  (case poS => k_is)
  (case saS => k_is)
  (case mkS => k_is)
  (case kcS => k_is)
  (case nS_above => k_is)
  (case nS_ins => k_is)
  (case nS_wides => k_is)
  (case nS_uses => k_is)
  (case nS_keepers => k_is)
  (case nS_nexts => k_is)
  (case nS_outs => k_is)
  (case pgM => k_is)
  (case hdM => k_is)
  (case poM => k_is)
  (case saM => k_is)
  (case mkM => k_is)
  (case kcM => k_is)
  (case nM_name => k_is)
  (case nM_rows => k_is)
  (case z_len => k_is)
  (case z_range => k_is)
  (case z_int => k_is)
  (case z_str => k_is)
  (case z_isinstance => k_is)
  (case z_zip => k_is)
  (case z_list => k_is)
  (case z_tuple => k_is)
  (case z_dict => k_is)
  (case z_bool => k_is)
  (case z_all => k_is)
  (case z_enumerate => k_is)
  (case z_max => k_is)
  (case z_min => k_is)
  (case z_sum => k_is)
  (case xhd => k_is)
  (case xsa => k_is)
  (case xkc => k_is)
  (case xna => k_is)
  (case fhg => k_is)
  (case frd => k_is)
  (case ffd => k_is)
  (case xcR => (refine' B17.zar9 ?x1 ?x2 ?x3 ?x4 ?x5 ?x6 ?x7 ?x8; (case x2 => k_is); (case x3 => rfl); (case x4 => rfl); (case x5 => rfl); (case x6 => rfl); (case x7 => k_is); (case x8 => rfl); (case x1 => (show PySem.W.excIn _ _ L2.bmV "ValueError.__new__" = true; k_exc))))
  (case xcF => exact L2.XC.b (show PySem.W.excIn _ _ L2.bmV "ValueError.__new__" = true by k_exc))
  (case xsb => k_is)
  (case xga => k_is)
  (case xgt => k_is)
  (case xcl => k_is)
  (case xsg => k_is)
  (case xtk => k_is)
  (case xmo => k_is)
  (case w_V => kit_is)
  (case ai_WIDEST => k_is)
  (case qaTK => k_is)
  (case qlf => k_is)
  (case qhe => rfl)
  (case qhx => exact ⟨rfl, rfl, rfl⟩)
  (case qns => rfl)
  (case qxsT => k_is)
 case S => exact fun K H a ns hl hO hS => ⟨a, ns, rfl, L2.Scr.of hS hl hO, fun _ => rfl⟩
 case C => exact fun _ _ _ _ z => z
