import PyProof.Rows.All
import Wide.All
import OpenK.AllK
import Wide.FinOn
import Lean
import PyProof.EqAt
import PyProof.EqKinds
import PyProof.TupleCall
import PyProof.AttrMiss
import PyProof.ConsumeWalk
import KE.KDictOf
import OpenK.KOwn
import PyProof.NsDelKeeps
import KE.KIsAll
import PyProof.Rows.SumAny
import PyProof.NeKinds
import PyProof.SeqI3
import KE.KRevIter
import KE.KSortTup
import PyProof.DictIter
import KE.KDictList
import PyProof.TupleOfGen
import KE.KListMore
import KE.KFind
import PyProof.DictWalks
import OpenK.KCls
import KE.BitLaws
import PySem.Challenge.RW_bitfloor_k46_packs_in_rings
import KE.RegKIsAll
set_option Elab.async false
set_option linter.all false
set_option maxRecDepth 100000
namespace L2
open PySem PySem.Spec PyProof.Rows
abbrev Key := Sum Int Str
def keyIs : Key → Value → Bool
 | .inl k, v => Value.isInt k v
 | .inr x, v => Value.isStrOf x v
def keyH (w : World) : Key → Int
 | .inl k => hashInt k
 | .inr x => hashStr w x
theorem zabh : ∀ {k : Key} {v : Value}, keyIs k v = true → (∃ i t, k = Sum.inl i ∧ v = Value.int i t) ∨ (∃ x t, k = Sum.inr x ∧ v = Value.str x t)
 | .inl i, v, h => by
  obtain ⟨t, e⟩ := Value.isInt_shape (k := i) (v := v) h
  exact .inl ⟨i, t, rfl, e⟩
 | .inr x, v, h => by
  obtain ⟨t, e⟩ := Value.isStrOf_shape (x := x) (v := v) h
  exact .inr ⟨x, t, rfl, e⟩
theorem zak8 (i : Int) (t : Tok) : keyIs (.inl i) (.int i t) = true := by simp [keyIs, Value.isInt]
theorem zak9 (x : Str) (t : Tok) : keyIs (.inr x) (.str x t) = true := by simp [keyIs, Value.isStrOf]
theorem zas6 (a b : Int) : decide ((Sum.inl a : Key) = Sum.inl b) = (a == b) := by
 by_cases e : a = b
 ·subst e; simp
 ·have h : ¬ (Sum.inl a : Key) = Sum.inl b := fun q => e (Sum.inl.inj q)
  rw [decide_eq_false h]
  exact (beq_eq_false_iff_ne.mpr e).symm
theorem zas7 (a b : Str) : decide ((Sum.inr a : Key) = Sum.inr b) = decide (a = b) := by
 by_cases e : a = b
 ·subst e; simp
 ·have h : ¬ (Sum.inr a : Key) = Sum.inr b := fun q => e (Sum.inr.inj q)
  rw [decide_eq_false h, decide_eq_false e]
theorem zas8 (a : Int) (b : Str) : decide ((Sum.inl a : Key) = Sum.inr b) = false := decide_eq_false (fun q => nomatch q)
theorem zas9 (a : Str) (b : Int) : decide ((Sum.inr a : Key) = Sum.inl b) = false := decide_eq_false (fun q => nomatch q)
def mixKind (prog : Program) (w : World) : PySem.KeyKind prog w Key where
 is := keyIs
 hash := keyH w
 inj := fun v a b ha hb => by
  rcases zabh ha with ⟨i, t, rfl, rfl⟩ | ⟨x, t, rfl, rfl⟩
  ·rcases zabh hb with ⟨j, u, rfl, e⟩ | ⟨y, u, rfl, e⟩
   ·injection e with e1 _; rw [e1]
   ·exact nomatch e
  ·rcases zabh hb with ⟨j, u, rfl, e⟩ | ⟨y, u, rfl, e⟩
   ·exact nomatch e
   ·injection e with e1 _; rw [e1]
 byValue := fun k v h => by
  rcases zabh h with ⟨i, t, rfl, rfl⟩ | ⟨x, t, rfl, rfl⟩ <;> rfl
 pyHash := fun hv h => by
  rcases zabh hv with ⟨i, t, rfl, rfl⟩ | ⟨x, t, rfl, rfl⟩
  ·exact wpAny_pyHash_int h
  ·exact wpAny_pyHash_str h
 eqBool := fun hu hv h => by
  rcases zabh hu with ⟨i, t, rfl, rfl⟩ | ⟨x, t, rfl, rfl⟩
  ·rcases zabh hv with ⟨j, u, rfl, rfl⟩ | ⟨y, u, rfl, rfl⟩
   ·rw [zas6] at h; exact wpAny_eqBool_int h
   ·rw [zas8] at h; exact SeqAt.EqAt.int_str i t y u _ _ _ _ h
  ·rcases zabh hv with ⟨j, u, rfl, rfl⟩ | ⟨y, u, rfl, rfl⟩
   ·rw [zas9] at h; exact SeqAt.EqAt.str_int x t j u _ _ _ _ h
   ·rw [zas7] at h; exact wpAny_eqBool_str h
 «strs» := fun k x t v h => by
  rcases zabh h with ⟨i, u, rfl, e⟩ | ⟨y, u, rfl, e⟩
  ·exact nomatch e
  ·injection e with e1 _
   subst e1
   cases v <;> rfl
theorem zain (prog : Program) (w : World) (i : Int) (t : Tok) : (mixKind prog w).is (.inl i) (.int i t) = true := zak8 i t
theorem zaio (prog : Program) (w : World) (x : Str) (t : Tok) : (mixKind prog w).is (.inr x) (.str x t) = true := zak9 x t
inductive V where
 | non | bl (b : Bool) | int (i : Int) | str (x : Str) | byt (b : Array UInt8) | flt (b : UInt64) | ref (a : Addr) | ty (n : String)
 deriving DecidableEq
def RelV : V → Value → Prop
 | .non, u => u = Value.none
 | .bl b, u => u = Value.bool b
 | .int i, u => ∃ t, u = Value.int i t
 | .str x, u => ∃ t, u = Value.str x t
 | .byt b, u => ∃ t, u = Value.bytes b t
 | .flt b, u => ∃ t, u = Value.float b t
 | .ref a, u => u = Value.ref a
 | .ty n, u => u = Value.type n
abbrev Vals : List V → List Value → Prop := Paired RelV
theorem Vals.length {xs : List V} {us : List Value} (r : Vals xs us) : xs.length = us.length := Paired.length r
theorem Vals.get : ∀ {xs : List V} {us : List Value} {i : Nat} {x : V}, Vals xs us → xs[i]? = some x → ∃ u, us[i]? = some u ∧ RelV x u
 | _, _, _, _, .nil, e => by simp at e
 | _, _, 0, _, .cons r _, e => by simp at e; subst e; exact ⟨_, rfl, r⟩
 | _, _, i + 1, x, .cons _ t, e => by
  obtain ⟨u, h1, h2⟩ := Vals.get (i := i) (x := x) t (by simpa using e)
  exact ⟨u, by simpa using h1, h2⟩
theorem Vals.set {x : V} {u : Value} (r : RelV x u) : ∀ {xs : List V} {us : List Value} (i : Nat), Vals xs us → Vals (xs.set i x) (us.set i u)
 | _, _, _, .nil => .nil
 | _, _, 0, .cons _ t => .cons r t
 | _, _, i + 1, .cons q t => .cons q (Vals.set r i t)
theorem Vals.append : ∀ {xs ys : List V} {us ws : List Value}, Vals xs us → Vals ys ws → Vals (xs ++ ys) (us ++ ws)
 | _, _, _, _, .nil, s => s
 | _, _, _, _, .cons r t, s => .cons r (Vals.append t s)
theorem Vals.take : ∀ {xs : List V} {us : List Value} (n : Nat), Vals xs us → Vals (xs.take n) (us.take n)
 | _, _, 0, _ => .nil
 | _, _, _ + 1, .nil => .nil
 | _, _, n + 1, .cons r t => .cons r (Vals.take n t)
theorem Vals.drop : ∀ {xs : List V} {us : List Value} (n : Nat), Vals xs us → Vals (xs.drop n) (us.drop n)
 | _, _, 0, r => r
 | _, _, _ + 1, .nil => .nil
 | _, _, n + 1, .cons _ t => Vals.drop n t
def RelO : Option V → Option Value → Prop
 | some v, some u => RelV v u
 | none, none => True
 | _, _ => False
def KV {κ : Type} : List (κ × V) → List (κ × Value) → Prop := Paired fun (p : κ × V) (q : κ × Value) => p.1 = q.1 ∧ RelV p.2 q.2
def kV : Key → V
 | .inl i => .int i
 | .inr x => .str x
inductive HO where
 | lst (xs : List V)
 | tup (xs : List V)
 | dK (kvs : List (Key × V)) | dT (kvs : List (List Key × V))
 | set (S : Int → Bool) (n : Nat)
 | ins (C dx : Addr) (fs : List (Str × V))
 | own (x : Addr)
 | xd (fs : List (Str × V))
 | met (f x : Addr)
 | rng (lo hi : Int)
 | frz (o : Obj) (u : HO)
 | tbl (ps : Array Value)
 | ext (φ : Heap → Prop)
abbrev Hp := Addr → Option HO
def upd (H : Hp) (a : Addr) (o : HO) : Hp := fun b => if b = a then some o else H b
theorem zaag {H : Hp} {a : Addr} {o : HO} : upd H a o a = some o := by unfold upd; rw [if_pos rfl]
theorem zaaw {H : Hp} {a b : Addr} {o : HO} (h : b ≠ a) : upd H a o b = H b := by unfold upd; rw [if_neg h]
theorem zabl {H : Hp} {a b : Addr} {o u : HO} (h : H a = some o) (h' : H b = some u) (d : o ≠ u) : a ≠ b := by
 intro e; subst e; rw [h] at h'; exact d (Option.some.inj h')
theorem zaao {H : Hp} {a b : Addr} {o : HO} (h : H a = some o) (h' : H b = none) : a ≠ b := by
 intro e; subst e; rw [h] at h'; cases h'
section
variable (P : Program) (w : World)
def ObjOk (H : Hp) (h : Heap) (a : Addr) : HO → Prop
 | .lst xs => xs.length ≤ sizeLine ∧ ∃ (its : List Value) (n : Nat), Vals xs its ∧ h.get? a = some { cls := .type "list", data := .seq its.toArray n }
 | .tup xs => xs.length ≤ sizeLine ∧ ∃ its : List Value, Vals xs its ∧ IsTup h a its.toArray
 | .dK kvs => kvs.length ≤ sizeLine ∧ (a == sysModules) = false ∧ ∃ vs, KV kvs vs ∧ h.DictOf (mixKind P w) a vs
 | .dT kvs => kvs.length ≤ sizeLine ∧ (a == sysModules) = false ∧ ∃ xs : List (List Key × Addr × Value),
   Paired (fun (p : List Key × V) (q : List Key × Addr × Value) => p.1 = q.1 ∧ H q.2.1 = some (.tup (p.1.map kV)) ∧ RelV p.2 q.2.2) kvs xs ∧
   ∃ o es ep, h.get? a = some o ∧ o.ExactDict ∧ o.data = .dict es ep ∧ es.toList = xs.map (entryOfKey (tupleKind (mixKind P w))) ∧ (xs.map (·.1)).Nodup
 | .set S n => h.SetOf (intKind P w) a S n
 | .ins C dx fs => H dx = some (.own a) ∧ fs.length ≤ 1000 ∧ dx ≠ a ∧ h.get? a = some (PySem.W.instObj C dx) ∧
   ∃ mA, h.Ns1 dx mA ∧ (∀ f, RelO (fs.lookup f) (mA f)) ∧ PySem.Within mA (fs.map (·.1))
 | .own _ => ∃ o, h.get? a = some o
 | .xd fs => ∃ mA, h.Ns1 a mA ∧ ∀ f, RelO (fs.lookup f) (mA f)
 | .rng lo hi => ∃ t u v, h.get? a = some { cls := .type "range", data := .fields #[.int lo t, .int hi u, .int 1 v] }
 | .frz o u => h.get? a = some o ∧ ObjOk H h a u
 | .tbl ps => h.get? a = some { cls := .none, data := .fields ps }
 | .met f x => h.get? a = some (PySem.W.methodObj (.ref f) (.ref x))
 | .ext φ => φ h ∧ (∃ o, h.get? a = some o) ∧ ∀ h1 h2 : Heap, φ h1 → (∀ o, h1.get? a = some o → h2.get? a = some o) → φ h2
def HOk (H : Hp) (h : Heap) : Prop := ∀ a o, H a = some o → ObjOk P w H h a o
end
section
variable {P : Program} {w : World} {H H' : Hp} {h h' : Heap} {a : Addr} {o : HO}
theorem ObjOk.lt (x : ObjOk P w H h a o) : a < h.objs.size := by
 cases o with
 | lst xs => obtain ⟨_, _, _, _, e⟩ := x; exact Heap.lt_size e
 | tup xs => obtain ⟨_, _, _, p⟩ := x; exact p.lt
 | dK kvs => obtain ⟨_, _, _, _, o, _, _, e, _⟩ := x; exact Heap.lt_size e
 | dT kvs => obtain ⟨_, _, _, _, o, _, _, e, _⟩ := x; exact Heap.lt_size e
 | set S n => obtain ⟨o, _, _, _, e, _⟩ := x; exact Heap.lt_size e
 | ins C dx fs => obtain ⟨_, _, _, e, _⟩ := x; exact Heap.lt_size e
 | own y => obtain ⟨_, e⟩ := x; exact Heap.lt_size e
 | xd fs => obtain ⟨_, ⟨_, _, _, e, _⟩, _⟩ := x; exact Heap.lt_size e
 | rng lo hi => obtain ⟨_, _, _, e⟩ := x; exact Heap.lt_size e
 | frz ob u => obtain ⟨e, _⟩ := x; exact Heap.lt_size e
 | tbl ps => exact Heap.lt_size (show h.get? a = some _ from x)
 | met f y => exact Heap.lt_size (show h.get? a = some _ from x)
 | ext φ => obtain ⟨_, ⟨_, e⟩, _⟩ := x; exact Heap.lt_size e
theorem Paired.mapP {α β : Type} {F G : α → β → Prop} : ∀ {l₁ : List α} {l₂ : List β}, Paired F l₁ l₂ → (∀ a b, F a b → G a b) → Paired G l₁ l₂
 | _, _, .nil, _ => .nil
 | _, _, .cons r t, f => .cons (f _ _ r) (Paired.mapP t f)
theorem ObjOk.stay (x : ObjOk P w H h a o) (k : ∀ b u, (b = a ∨ H b = some (.own a)) → h.get? b = some u → h'.get? b = some u)
  (ho : ∀ b, H b = some (.own a) → H' b = some (.own a)) (ht : ∀ b xs, H b = some (.tup xs) → H' b = some (.tup xs)) : ObjOk P w H' h' a o := by
 induction o with
 | lst xs => obtain ⟨z, its, n, r, e⟩ := x; exact ⟨z, its, n, r, k _ _ (.inl rfl) e⟩
 | tup xs => obtain ⟨z, its, r, ob, e, c⟩ := x; exact ⟨z, its, r, ob, k _ _ (.inl rfl) e, c⟩
 | dK kvs => obtain ⟨z, y, vs, r, ob, es, ep, e, c⟩ := x; exact ⟨z, y, vs, r, ob, es, ep, k _ _ (.inl rfl) e, c⟩
 | dT kvs =>
  obtain ⟨z, y, xs, r, ob, es, ep, e, c⟩ := x
  exact ⟨z, y, xs, Paired.mapP r fun p q z => ⟨z.1, ht _ _ z.2.1, z.2.2⟩, ob, es, ep, k _ _ (.inl rfl) e, c⟩
 | set S n => obtain ⟨ob, es, ep, t, e, c⟩ := x; exact ⟨ob, es, ep, t, k _ _ (.inl rfl) e, c⟩
 | ins C dx fs =>
  obtain ⟨d, z, ne, e, mA, ⟨od, es, ep, e2, c⟩, r⟩ := x
  exact ⟨ho _ d, z, ne, k _ _ (.inl rfl) e, mA, ⟨od, es, ep, k _ _ (.inr d) e2, c⟩, r⟩
 | own y => obtain ⟨ob, e⟩ := x; exact ⟨ob, k _ _ (.inl rfl) e⟩
 | xd fs => obtain ⟨mA, ⟨od, es, ep, e, c⟩, r⟩ := x; exact ⟨mA, ⟨od, es, ep, k _ _ (.inl rfl) e, c⟩, r⟩
 | rng lo hi => obtain ⟨t, u, v, e⟩ := x; exact ⟨t, u, v, k _ _ (.inl rfl) e⟩
 | frz ob u ih => obtain ⟨e, q⟩ := x; exact ⟨k _ _ (.inl rfl) e, ih q⟩
 | tbl ps =>
  have e : h.get? a = some { cls := .none, data := .fields ps } := x
  show h'.get? a = some { cls := .none, data := .fields ps }
  exact k a _ (.inl rfl) e
 | met f y =>
  have e : h.get? a = some (PySem.W.methodObj (.ref f) (.ref y)) := x
  show h'.get? a = some (PySem.W.methodObj (.ref f) (.ref y))
  exact k a _ (.inl rfl) e
 | ext φ => obtain ⟨p, ⟨o, e⟩, st⟩ := x; exact ⟨st _ _ p fun o q => k _ _ (.inl rfl) q, ⟨o, k _ _ (.inl rfl) e⟩, st⟩
theorem HOk.lt (x : HOk P w H h) (e : H a = some o) : a < h.objs.size := (x a o e).lt
theorem HOk.fresh (x : HOk P w H h) (e : h.objs.size ≤ a) : H a = none := by
 cases q : H a with
 | none => rfl
 | some u => exact absurd (Nat.lt_of_lt_of_le (x.lt q) e) (Nat.lt_irrefl _)
theorem HOk.kept (x : HOk P w H h) (k : ∀ b u, h.get? b = some u → h'.get? b = some u) : HOk P w H h' := fun a o e =>
 (x a o e).stay (fun b u _ q => k b u q) (fun _ q => q) fun _ _ q => q
theorem HOk.laid (x : HOk P w H h) (k : ∀ b u, h.get? b = some u → h'.get? b = some u) (hp : h.objs.size ≤ a) (new : ObjOk P w (upd H a o) h' a o) : HOk P w (upd H a o) h' := fun b u e => by
 have hn := x.fresh hp
 by_cases hb : b = a
 ·subst hb; rw [zaag] at e; cases e; exact new
 ·rw [zaaw hb] at e
  exact (x b u e).stay (fun c v _ q => k c v q) (fun c q => by rw [zaaw (zaao q hn)]; exact q) fun c xs q => by rw [zaaw (zaao q hn)]; exact q
end
def Rd (H : Hp) (a : Addr) (u : HO) : Prop := H a = some u ∨ ∃ o, H a = some (.frz o u)
theorem Rd.ok {P : Program} {w : World} {H : Hp} {h : Heap} {a : Addr} {u : HO} (r : Rd H a u) (x : HOk P w H h) : ObjOk P w H h a u := by
 rcases r with r | ⟨o, r⟩
 ·exact x a u r
 ·obtain ⟨_, q⟩ := x a _ r
  exact q
def Mut : Option HO → Prop
 | some (.lst _) => True
 | some (.dK _) => True
 | some (.dT _) => True
 | some (.set _ _) => True
 | some (.ins _ _ _) => True
 | some (.ext _) => True
 | _ => False
section
variable {P : Program} {w : World} {H : Hp} {h h' : Heap} {x e : Addr} {o' : HO}
theorem HOk.write (ok : HOk P w H h) (mu : Mut (H x)) (he : e = x ∨ H e = some (.own x)) (k : ∀ b u, b ≠ e → h.get? b = some u → h'.get? b = some u) (heo : ∃ u, h'.get? e = some u)
  (new : ObjOk P w (upd H x o') h' x o') : HOk P w (upd H x o') h' := fun b u q => by
 have nown : ∀ c y, H c = some (.own y) → c ≠ x := fun c y r z => by subst z; rw [r] at mu; exact mu
 have ntup : ∀ c xs, H c = some (.tup xs) → c ≠ x := fun c xs r z => by subst z; rw [r] at mu; exact mu
 by_cases hb : b = x
 ·subst hb; rw [zaag] at q; cases q; exact new
 ·rw [zaaw hb] at q
  by_cases hbe : b = e
  ·have q' : H b = some (.own x) := by
    rcases he with z | z
    ·exact absurd (hbe.trans z) hb
    ·rw [hbe]; exact z
   rw [q] at q'; cases q'
   obtain ⟨v, hv⟩ := heo
   exact ⟨v, by rw [hbe]; exact hv⟩
  ·refine (ok b u q).stay (fun c v hc r => k c v ?_ r) (fun c r => by rw [zaaw (nown c b r)]; exact r) fun c xs r => by rw [zaaw (ntup c xs r)]; exact r
   rcases hc with rfl | hc
   ·exact hbe
   ·rintro rfl
    rcases he with z | z
    ·exact nown c b hc z
    ·rw [hc] at z; cases z; exact hb rfl
end
structure Un (fs ex : List Addr) (H H' : Hp) (h h' : Heap) : Prop where
 keep : ∀ b o, h.get? b = some o → H b = none → b ∉ fs → b ∉ ex → h'.get? b = some o
 slot : ∀ b o, h.get? b = some o → H b = none → b ∈ fs → b ∉ ex → ∃ sl, h'.get? b = some { o with slots := sl }
 free : ∀ b o, h.get? b = some o → H b = none → b ∉ ex → H' b = none
 there : ∀ b o, h.get? b = some o → b ∉ ex → ∃ o', h'.get? b = some o'
 tups : ∀ b xs, H b = some (.tup xs) → H' b = some (.tup xs)
 frzs : ∀ b o u, H b = some (.frz o u) → H' b = some (.frz o u)
 tbls : ∀ b ps, H b = some (.tbl ps) → ∃ more, H' b = some (.tbl (ps ++ more))
section
variable {fs fs' ex ex' : List Addr} {H H1 H2 : Hp} {h h1 h2 h' : Heap} {a x e : Addr} {o : HO}
theorem Un.any (u : Un fs ex H H1 h h1) {b : Addr} {ob : Obj} (q : h.get? b = some ob) (n : H b = none) (hx : b ∉ ex) : ∃ sl, h1.get? b = some { ob with slots := sl } := by
 by_cases hb : b ∈ fs
 ·exact u.slot b ob q n hb hx
 ·exact ⟨ob.slots, u.keep b ob q n hb hx⟩
theorem Un.kept (k : ∀ b u, h.get? b = some u → h'.get? b = some u) : Un fs ex H H h h' :=
 ⟨fun b ob q _ _ _ => k b ob q, fun b ob q _ _ _ => ⟨ob.slots, k b ob q⟩, fun _ _ _ n _ => n, fun b ob q _ => ⟨ob, k b ob q⟩, fun _ _ q => q, fun _ _ _ q => q, fun _ ps q => ⟨#[], by rw [q]; simp⟩⟩
theorem Un.refl : Un fs ex H H h h := Un.kept fun _ _ q => q
theorem Un.laid (k : ∀ b u, h.get? b = some u → h'.get? b = some u) (hp : h.objs.size ≤ a) (hn : H a = none) : Un fs ex H (upd H a o) h h' where
 keep := fun b u q _ _ _ => k b u q
 slot := fun b u q _ _ _ => ⟨u.slots, k b u q⟩
 free := fun b u q n _ => by rw [zaaw (Nat.ne_of_lt (Nat.lt_of_lt_of_le (Heap.lt_size q) hp))]; exact n
 there := fun b u q _ => ⟨u, k b u q⟩
 tups := fun b xs q => by rw [zaaw (zaao q hn)]; exact q
 frzs := fun b u xs q => by rw [zaaw (zaao q hn)]; exact q
 tbls := fun b ps q => ⟨#[], by rw [zaaw (zaao q hn), q]; simp⟩
theorem Un.write (mu : Mut (H x)) (he : e = x ∨ H e = some (.own x)) (k : ∀ b u, b ≠ e → h.get? b = some u → h'.get? b = some u) (heo : ∃ u, h'.get? e = some u) : Un fs ex H (upd H x o) h h' := by
 have hx : ∀ b, H b = none → b ≠ x := fun b n z => by subst z; rw [n] at mu; exact mu
 have hb : ∀ b, H b = none → b ≠ e := fun b n z => by
  subst z
  rcases he with r | r
  ·exact hx b n r
  ·rw [n] at r; cases r
 have hm : ∀ b u, H b = some u → ¬ Mut (some u) → b ≠ x := fun b u q nm z => by subst z; rw [q] at mu; exact nm mu
 refine ⟨fun b u q n _ _ => k b u (hb b n) q, fun b u q n _ _ => ⟨u.slots, k b u (hb b n) q⟩, fun b u q n _ => by rw [zaaw (hx b n)]; exact n, fun b u q _ => ?_,
  fun b xs q => by rw [zaaw (hm b _ q fun z => z)]; exact q, fun b u xs q => by rw [zaaw (hm b _ q fun z => z)]; exact q, fun b ps q => ⟨#[], by rw [zaaw (hm b _ q fun z => z), q]; simp⟩⟩
 by_cases hbe : b = e
 ·subst hbe; exact heo
 ·exact ⟨u, k b u hbe q⟩
end
def trk (h : Heap) (H : Hp) : List Addr := (List.range h.objs.size).filter fun a => (H a).isSome
def hidT (h : Heap) (H : Hp) : Heap := PySem.W.hideAll h (trk h H)
theorem zala (h : Heap) (H : Hp) : (hidT h H).objs.size = h.objs.size := PySem.W.hideAll_size _ _
theorem zaoz {h : Heap} {H : Hp} {b : Addr} {o : Obj} (e : h.get? b = some o) (n : H b = none) : (hidT h H).get? b = some o :=
 PySem.W.hideAll_get _ e fun hm => by
  have q : (H b).isSome = true := (List.mem_filter.mp hm).2
  rw [n] at q; simp at q
theorem zaq0 {h : Heap} {H : Hp} {b : Addr} {o : Obj} (e : (hidT h H).get? b = some o) : h.get? b = some o ∧ H b = none := by
 have e' : h.get? b = some o := PySem.W.of_hideAll (trk h H) e
 refine ⟨e', ?_⟩
 cases q : H b with
 | none => rfl
 | some x =>
  have hm : b ∈ trk h H := List.mem_filter.mpr ⟨List.mem_range.mpr (Heap.lt_size e'), by simp [q]⟩
  have z : (hidT h H).get? b = none := PySem.W.hideAll_none (trk h H) hm
  rw [z] at e; cases e
def allNews (g h : Heap) (L : Addr) : List (Addr × Obj) := (List.range h.objs.size).filterMap fun a => if a = L ∨ (g.get? a).isSome = true then none else (h.get? a).map fun o => (a, o)
def rest (g h : Heap) (L d : Addr) : List (Addr × Obj) := (allNews g h L).filter fun p => decide (p.1 ≠ d)
structure Mod (K : PySem.W.Frag) (mg : Str → Option Value) (base : Heap) : Prop where
 kin : K.In base
 glob : base.Ns mainGlobals mg
 blt : ∃ mb, base.Ns builtinsNs mb ∧ ∀ x : Str, x ≠ "__name__" → mb x = bootBuiltins x
 nolimit : base.NoLimit
structure Cx where
 prog : Program
 w : World
 K : PySem.W.Frag
 mg : Str → Option Value
 base : Heap
 A : Around
 N : List Str
 s₀ : Shared
 H₀ : Hp
 env : Env
 outer : List Env
 stack : List Env
 ex : List Addr
 fn : Str → Bool
 calm : Bool
 pn : List (Addr × Obj)
 xe : Value → Shared → Prop
def frs (l : List Env) : List Addr := l.filterMap (·.frame)
abbrev Cx.fs (X : Cx) : List Addr := frs X.outer
def Vis (sc : Scope) (x : Str) : Prop := sc.names.lookup x = some .local ∨ sc.names.lookup x = some .cell ∨ sc.names.lookup x = some .free
def Loc (sc : Scope) (x : Str) : Prop := sc.names.lookup x = some .local ∨ sc.names.lookup x = some .cell
def Look (env : Env) (h : Heap) (m : Str → Option Value) (x : Str) (u : Value) : Prop :=
 (env.kindOf x = some .local ∧ m x = some u) ∨ ((env.kindOf x = some .cell ∨ env.kindOf x = some .free) ∧ ∃ c, env.cells.lookup x = some c ∧ h.IsCell c (some u))
structure Cx.Ok (X : Cx) : Prop where
 mod : Mod X.K X.mg X.base
 kind : X.env.scope.kind = .function
 glob : X.env.globals = mainGlobals
 blt : X.env.builtins = builtinsNs
 above : X.s₀.heap.objs.size ≤ X.env.locals
 inj : ∀ x y c, X.env.cells.lookup x = some c → X.env.cells.lookup y = some c → x = y
 has : ∀ x, (X.env.kindOf x = some .cell ∨ X.env.kindOf x = some .free) → ∃ c, X.env.cells.lookup x = some c
 cab : ∀ x c, X.fn x = true → X.env.cells.lookup x = some c → X.s₀.heap.objs.size ≤ c
 hd : X.calm = true → X.A.handled = none
 frames : X.A.frames = some X.stack
 stk : X.stack = X.outer ∨ (X.stack = X.env :: X.outer ∧ X.env.frame = some X.env.locals)
 exf : ∀ b ∈ X.ex, b ≠ X.env.locals ∧ ∀ x c, X.env.cells.lookup x = some c → c ≠ b
 bs : ∀ b o, X.base.get? b = some o → X.s₀.heap.get? b = some o ∧ X.H₀ b = none
 bsz : X.base.objs.size ≤ X.s₀.heap.objs.size
 noex : ∀ b o, X.base.get? b = some o → b ∉ X.ex
 exfs : ∀ b ∈ X.ex, b ∉ X.fs
 funs : X.s₀.heap.FunFrames X.base X.outer
 frf : ∀ b ∈ X.fs, X.H₀ b = none
structure Inv (X : Cx) (pins : List (Addr × Obj)) (σ : List (Option V)) (H : Hp) (s : Shared) : Prop where
 ok : X.Ok
 os : s.os = X.s₀.os
 bare : AllBare s.gens
 base : Un X.fs X.ex X.H₀ H X.s₀.heap s.heap
 loc : ∃ m, s.heap.Ns X.env.locals m ∧ ∀ (i : Nat) (x : Str) (v : V), X.N[i]? = some x → σ[i]? = some (some v) → Vis X.env.scope x → ∃ u, RelV v u ∧ Look X.env s.heap m x u
 cell : ∀ x c, X.env.cells.lookup x = some c → ∃ v, s.heap.IsCell c v
 free : H X.env.locals = none
 freeC : ∀ x c, X.env.cells.lookup x = some c → H c = none
 pin : ∀ p ∈ X.pn ++ pins, s.heap.get? p.1 = some p.2 ∧ H p.1 = none ∧ p.1 ≠ X.env.locals ∧ p.1 ∉ X.fs ∧ ∀ v, p.2.data ≠ .cell v
 hok : HOk X.prog X.w H s.heap
 len : σ.length = X.N.length
section
variable {X : Cx} {pins : List (Addr × Obj)} {σ : List (Option V)} {H H' : Hp} {s : Shared} {h' : Heap}
theorem Cx.Ok.nofr (ok : X.Ok) {b : Addr} {o : Obj} (e : X.base.get? b = some o) : b ∉ X.fs := fun hb => by
 have := (ok.funs.mem hb).1
 rw [e] at this; cases this
theorem Inv.bs (I : Inv X pins σ H s) : ∀ b o, X.base.get? b = some o → s.heap.get? b = some o ∧ H b = none := fun b o e =>
 ⟨I.base.keep b o (I.ok.bs b o e).1 (I.ok.bs b o e).2 (I.ok.nofr e) (I.ok.noex b o e), I.base.free b o (I.ok.bs b o e).1 (I.ok.bs b o e).2 (I.ok.noex b o e)⟩
theorem Inv.bk (I : Inv X pins σ H s) : ∀ b o, X.base.get? b = some o → s.heap.get? b = some o := fun b o e => (I.bs b o e).1
theorem Inv.mod (I : Inv X pins σ H s) : Mod X.K X.mg X.base := I.ok.mod
theorem Inv.kIn (I : Inv X pins σ H s) : X.K.In s.heap := I.ok.mod.kin.keeps I.bk
theorem Inv.lt (I : Inv X pins σ H s) : X.env.locals < s.heap.objs.size := let ⟨_, hn, _⟩ := I.loc; hn.lt
theorem Inv.sz (I : Inv X pins σ H s) : X.s₀.heap.objs.size ≤ s.heap.objs.size := Nat.le_trans I.ok.above (Nat.le_of_lt I.lt)
theorem Inv.nofs (I : Inv X pins σ H s) {a : Addr} (h : s.heap.objs.size ≤ a) : a ∉ X.fs := fun hb => by
 obtain ⟨_, o, ho, _⟩ := I.ok.funs.mem hb
 exact absurd (Nat.lt_of_lt_of_le (Heap.lt_size ho) (Nat.le_trans I.sz h)) (Nat.lt_irrefl _)
theorem Inv.cne (I : Inv X pins σ H s) : ∀ x c, X.env.cells.lookup x = some c → c ≠ X.env.locals := fun x c e z => by
 obtain ⟨v, o, ho, hd⟩ := I.cell x c e
 obtain ⟨m, ⟨o', es, ep, ho', hd', _⟩, _⟩ := I.loc
 rw [z, ho'] at ho; cases ho; rw [hd'] at hd; cases hd
theorem Inv.funs (I : Inv X pins σ H s) : s.heap.FunFrames X.base X.outer := by
 have all : ∀ (l : List Env), (∀ b ∈ frs l, b ∈ X.fs) → X.s₀.heap.FunFrames X.base l → s.heap.FunFrames X.base l := by
  intro l
  induction l with
  | nil => intro _ _; trivial
  | cons env r ih =>
   intro hs hl
   obtain ⟨hk, ⟨L, o, hf, hn, ho, hd⟩, hr⟩ := hl
   have hL : L ∈ X.fs := hs L (by unfold frs; rw [List.filterMap_cons, hf]; exact List.mem_cons_self)
   obtain ⟨sl, e⟩ := I.base.slot L o ho (I.ok.frf L hL) hL fun z => I.ok.exfs L z hL
   exact ⟨hk, ⟨L, _, hf, hn, e, hd⟩, ih (fun b hb => hs b (by unfold frs; rw [List.filterMap_cons, hf]; exact List.mem_cons_of_mem _ hb)) hr⟩
 exact all X.outer (fun _ hb => hb) I.ok.funs
theorem Inv.stack (I : Inv X pins σ H s) : s.heap.FunFrames X.base X.stack := by
 rcases I.ok.stk with e | ⟨e, hf⟩
 ·rw [e]; exact I.funs
 ·rw [e]
  obtain ⟨m, hn, _⟩ := I.loc
  refine .cons (by rw [I.ok.kind]; decide) hf hn ?_ I.funs
  exact Heap.get?_none_of_le (Nat.le_trans I.ok.bsz I.ok.above)
theorem Inv.stkSub (I : Inv X pins σ H s) : ∀ b ∈ frs X.stack, b ∈ X.env.locals :: X.fs := fun b hb => by
 rcases I.ok.stk with e | ⟨e, hf⟩
 ·rw [e] at hb; exact List.mem_cons_of_mem _ hb
 ·rw [e] at hb
  unfold frs at hb
  rw [List.filterMap_cons, hf] at hb
  exact hb
theorem Inv.stkFree (I : Inv X pins σ H s) : ∀ b ∈ frs X.stack, H b = none := fun b hb => by
 rcases List.mem_cons.mp (I.stkSub b hb) with e | hb
 ·rw [e]; exact I.free
 ·obtain ⟨_, o, ho, _⟩ := I.ok.funs.mem hb
  exact I.base.free b o ho (I.ok.frf b hb) fun z => I.ok.exfs b z hb
theorem Inv.step {g' : Array GenState} {t' : Nat} {d' : Drawn} {ch : List Addr} (I : Inv X pins σ H s)
  (hch : ∀ b ∈ ch, (b ∈ X.ex ∨ X.s₀.heap.objs.size ≤ b) ∧ b ≠ X.env.locals ∧ (∀ x c, X.env.cells.lookup x = some c → c ≠ b) ∧ ∀ p ∈ X.pn ++ pins, p.1 ≠ b)
  (keep : ∀ b o, b ≠ X.env.locals → b ∉ X.fs → b ∉ ch → s.heap.get? b = some o → H b = none → h'.get? b = some o)
  (slot : ∀ b o, b ≠ X.env.locals → b ∈ X.fs → b ∉ ch → s.heap.get? b = some o → H b = none → ∃ sl, h'.get? b = some { o with slots := sl }) (free : ∀ b o, b ∉ ch → s.heap.get? b = some o → H b = none → H' b = none)
  (there : ∀ b o, b ∉ ch → s.heap.get? b = some o → ∃ o', h'.get? b = some o')
  (tups : ∀ b xs, H b = some (.tup xs) → H' b = some (.tup xs)) (frzs : ∀ b o u, H b = some (.frz o u) → H' b = some (.frz o u)) (tbls : ∀ b ps, H b = some (.tbl ps) → ∃ more, H' b = some (.tbl (ps ++ more)))
  (ns : ∀ m, s.heap.Ns X.env.locals m → h'.Ns X.env.locals m) (hok : HOk X.prog X.w H' h') (hg : AllBare g') :
  Inv X pins σ H' { s with heap := h', gens := g', drawn := d', toks := t' } := by
 have neL : ∀ b o, X.s₀.heap.get? b = some o → b ≠ X.env.locals := fun b o e => Nat.ne_of_lt (Nat.lt_of_lt_of_le (Heap.lt_size e) I.ok.above)
 have neC : ∀ b o, X.s₀.heap.get? b = some o → b ∉ X.ex → b ∉ ch := fun b o e hx hb => by
  rcases (hch b hb).1 with z | z
  ·exact hx z
  ·exact absurd (Nat.lt_of_lt_of_le (Heap.lt_size e) z) (Nat.lt_irrefl _)
 have cellK : ∀ x c, X.env.cells.lookup x = some c → ∀ v, s.heap.IsCell c v → h'.IsCell c v := fun x c e v ⟨o, ho, hd⟩ => by
  have nch : c ∉ ch := fun z => (hch c z).2.2.1 x c e rfl
  by_cases hc : c ∈ X.fs
  ·obtain ⟨sl, q⟩ := slot c o (I.cne x c e) hc nch ho (I.freeC x c e)
   exact ⟨_, q, hd⟩
  ·exact ⟨o, keep c o (I.cne x c e) hc nch ho (I.freeC x c e), hd⟩
 refine ⟨I.ok, I.os, hg, ⟨fun b o e n hb hx => ?_, fun b o e n hb hx => ?_, fun b o e n hx => ?_, fun b o e hx => ?_, fun b xs e => tups b xs (I.base.tups b xs e), fun b o xs e => frzs b o xs (I.base.frzs b o xs e), fun b ps e => ?_⟩, ?_, fun x c e => ?_, ?_, fun x c e => ?_, fun p hp => ?_, hok, I.len⟩
 ·exact keep b o (neL b o e) hb (neC b o e hx) (I.base.keep b o e n hb hx) (I.base.free b o e n hx)
 ·obtain ⟨sl, e1⟩ := I.base.slot b o e n hb hx
  obtain ⟨sl', e2⟩ := slot b _ (neL b o e) hb (neC b o e hx) e1 (I.base.free b o e n hx)
  exact ⟨sl', e2⟩
 ·obtain ⟨o', e1⟩ := I.base.there b o e hx
  exact free b o' (neC b o e hx) e1 (I.base.free b o e n hx)
 ·obtain ⟨o', e1⟩ := I.base.there b o e hx
  exact there b o' (neC b o e hx) e1
 ·obtain ⟨m1, e1⟩ := I.base.tbls b ps e
  obtain ⟨m2, e2⟩ := tbls b _ e1
  exact ⟨m1 ++ m2, by rw [e2, Array.append_assoc]⟩
 ·obtain ⟨m, hn, hl⟩ := I.loc
  refine ⟨m, ns m hn, fun i x v e1 e2 e3 => ?_⟩
  obtain ⟨u, r, l⟩ := hl i x v e1 e2 e3
  refine ⟨u, r, ?_⟩
  rcases l with l | ⟨k, c, e, z⟩
  ·exact .inl l
  ·exact .inr ⟨k, c, e, cellK x c e _ z⟩
 ·obtain ⟨v, z⟩ := I.cell x c e
  exact ⟨v, cellK x c e v z⟩
 ·obtain ⟨m, ⟨o, _, _, ho, _⟩, _⟩ := I.loc
  exact free _ o (fun z => (hch _ z).2.1 rfl) ho I.free
 ·obtain ⟨v, o, ho, hd⟩ := I.cell x c e
  exact free c o (fun z => (hch c z).2.2.1 x c e rfl) ho (I.freeC x c e)
 ·obtain ⟨e, n, ne, nf, d⟩ := I.pin p hp
  have nch : p.1 ∉ ch := fun z => (hch p.1 z).2.2.2 p hp rfl
  exact ⟨keep p.1 p.2 ne nf nch e n, free p.1 p.2 nch e n, ne, nf, d⟩
theorem Inv.un {t' : Nat} (I : Inv X pins σ H s) (u : Un X.fs [] H H' s.heap h') (hok : HOk X.prog X.w H' h') : Inv X pins σ H' { s with heap := h', toks := t' } := by
 obtain ⟨m, ⟨o, es, ep, ho, r⟩, _⟩ := id I.loc
 obtain ⟨sl, hL⟩ := u.any ho I.free (by simp)
 exact I.step (g' := s.gens) (d' := s.drawn) (ch := []) (fun _ z => nomatch z) (fun b o _ hb _ e n => u.keep b o e n hb (by simp)) (fun b o _ hb _ e n => u.slot b o e n hb (by simp)) (fun b o _ e n => u.free b o e n (by simp)) (fun b o _ e => u.there b o e (by simp)) u.tups u.frzs u.tbls (fun m' hm => by
  obtain ⟨o', es', ep', ho', r'⟩ := hm
  rw [ho] at ho'; cases ho'
  exact ⟨_, es', ep', hL, r'⟩) hok I.bare
theorem Inv.call {g' : Array GenState} {t' : Nat} {d' : Drawn} {ch : List Addr} (I : Inv X pins σ H s) (u : Un (frs X.stack) ch H H' s.heap h') (hok : HOk X.prog X.w H' h') (hg : AllBare g')
  (hch : ∀ b ∈ ch, (b ∈ X.ex ∨ X.s₀.heap.objs.size ≤ b) ∧ b ≠ X.env.locals ∧ (∀ x c, X.env.cells.lookup x = some c → c ≠ b) ∧ ∀ p ∈ X.pn ++ pins, p.1 ≠ b) :
  Inv X pins σ H' { s with heap := h', gens := g', drawn := d', toks := t' } := by
 obtain ⟨m, ⟨o, es, ep, ho, r⟩, _⟩ := id I.loc
 obtain ⟨sl, hL⟩ := u.any ho I.free fun z => (hch _ z).2.1 rfl
 exact I.step (ch := ch) hch (fun b o hL hb hc e n => u.keep b o e n (fun z => (List.mem_cons.mp (I.stkSub b z)).elim hL hb) hc) (fun b o _ _ hc e n => u.any e n hc) (fun b o hc e n => u.free b o e n hc) (fun b o hc e => u.there b o e hc) u.tups u.frzs u.tbls (fun m' hm => by
  obtain ⟨o', es', ep', ho', r'⟩ := hm
  rw [ho] at ho'; cases ho'
  exact ⟨_, es', ep', hL, r'⟩) hok hg
theorem Inv.turned {t' : Nat} {it : Addr} (I : Inv X pins σ H s) (k : ∀ b o, b ≠ it → s.heap.get? b = some o → h'.get? b = some o) (hn : H it = none) (hL : it ≠ X.env.locals)
  (h1 : it ∈ X.ex ∨ X.s₀.heap.objs.size ≤ it) (h2 : ∀ x c, X.env.cells.lookup x = some c → c ≠ it) (h3 : ∀ p ∈ X.pn ++ pins, p.1 ≠ it) : Inv X pins σ H { s with heap := h', toks := t' } := by
 have nit : ∀ b u, H b = some u → b ≠ it := fun b u e z => by rw [z, hn] at e; cases e
 refine I.step (g' := s.gens) (d' := s.drawn) (ch := [it]) (fun b hb => ?_) (fun b o _ _ hc e _ => k b o (fun z => hc (by simp [z])) e) (fun b o _ _ hc e _ => ⟨o.slots, k b o (fun z => hc (by simp [z])) e⟩) (fun _ _ _ _ n => n)
  (fun b o hc e => ⟨o, k b o (fun z => hc (by simp [z])) e⟩) (fun _ _ e => e) (fun _ _ _ e => e) (fun b ps e => ⟨#[], by rw [e]; simp⟩) (fun m hm => ?_) (fun b u e => ?_) I.bare
 ·have e : b = it := by simpa using hb
  subst e
  exact ⟨h1, hL, h2, h3⟩
 ·obtain ⟨o, es, ep, ho, r⟩ := hm
  exact ⟨o, es, ep, k _ o (Ne.symm hL) ho, r⟩
 ·refine (I.hok b u e).stay (fun c v hc q => k c v ?_ q) (fun _ q => q) fun _ _ q => q
  rcases hc with z | z
  ·rw [z]; exact nit b u e
  ·exact nit c _ z
theorem Inv.tok (I : Inv X pins σ H s) (t : Nat) : Inv X pins σ H { s with toks := t } := I.un (h' := s.heap) (t' := t) Un.refl I.hok
theorem Inv.kept {t' : Nat} (I : Inv X pins σ H s) (k : ∀ b u, s.heap.get? b = some u → h'.get? b = some u) : Inv X pins σ H { s with heap := h', toks := t' } := I.un (Un.kept k) (I.hok.kept k)
theorem Inv.laid {a : Addr} {o : HO} {t' : Nat} (I : Inv X pins σ H s) (k : ∀ b u, s.heap.get? b = some u → h'.get? b = some u) (hp : s.heap.objs.size ≤ a) (new : ObjOk X.prog X.w (upd H a o) h' a o) :
  Inv X pins σ (upd H a o) { s with heap := h', toks := t' } := I.un (Un.laid k hp (I.hok.fresh hp)) (I.hok.laid k hp new)
theorem Inv.write {x e : Addr} {o : HO} {t' : Nat} (I : Inv X pins σ H s) (mu : Mut (H x)) (he : e = x ∨ H e = some (.own x)) (k : ∀ b u, b ≠ e → s.heap.get? b = some u → h'.get? b = some u) (heo : ∃ u, h'.get? e = some u)
  (new : ObjOk X.prog X.w (upd H x o) h' x o) : Inv X pins σ (upd H x o) { s with heap := h', toks := t' } := I.un (Un.write mu he k heo) (I.hok.write mu he k heo new)
theorem Inv.pins_of {pins' : List (Addr × Obj)} (I : Inv X pins σ H s) (h : ∀ p ∈ pins', s.heap.get? p.1 = some p.2 ∧ H p.1 = none ∧ p.1 ≠ X.env.locals ∧ p.1 ∉ X.fs ∧ ∀ v, p.2.data ≠ .cell v) : Inv X pins' σ H s :=
 ⟨I.ok, I.os, I.bare, I.base, I.loc, I.cell, I.free, I.freeC, fun p hp => (List.mem_append.mp hp).elim (fun z => I.pin p (List.mem_append_left _ z)) (h p), I.hok, I.len⟩
theorem zagj {N : List Str} (hN : N.Nodup) {i j : Nat} {x : Str} (a : N[i]? = some x) (b : N[j]? = some x) : i = j := by
 obtain ⟨h1, e1⟩ := List.getElem?_eq_some_iff.mp a
 obtain ⟨h2, e2⟩ := List.getElem?_eq_some_iff.mp b
 exact (List.getElem_inj hN).mp (e1.trans e2.symm)
theorem zaho {M : Model} {A : Around} {E : Value → Shared → Prop} {i : Nat} {x : Str} {v : V} {u : Value} {Q : Unit → Shared → Prop} (I : Inv X pins σ H s) (hN : X.N.Nodup) (hi : X.N[i]? = some x) (hx : Loc X.env.scope x) (r : RelV v u)
  (h : ∀ s', Inv X pins (σ.set i (some v)) H s' → (∃ a, Heap.SameBut a s.heap s'.heap ∧ (a = X.env.locals ∨ X.env.cells.lookup x = some a)) → Q () s') (hf : X.fn x = true ∨ X.env.scope.names.lookup x = some .local := by first | exact .inl rfl | exact .inr rfl | assumption) : wpAny M A (storeName X.env x u) Q E s := by
 obtain ⟨m, hn, hl⟩ := id I.loc
 have hcls : (X.env.scope.kind == .class || (X.env.scope.kind == .module && X.env.locals != X.env.globals)) = false := by rw [I.ok.kind]; rfl
 have hiσ : i < σ.length := by rw [I.len]; exact (List.getElem?_eq_some_iff.mp hi).1
 have cne := I.cne
 have tracked : ∀ {a : Addr} {h' : Heap}, (∃ o, s.heap.get? a = some o ∧ H a = none) → Heap.SameBut a s.heap h' → HOk X.prog X.w H h' := fun {a h'} ha hs b ob e => by
  obtain ⟨_, _, hfree⟩ := ha
  refine (I.hok b ob e).stay (fun c w' hc q => (hs.2 c ?_).trans q) (fun _ q => q) fun _ _ q => q
  rintro rfl
  rcases hc with rfl | hc
  ·rw [hfree] at e; cases e
  ·rw [hfree] at hc; cases hc
 rcases hx with hk | hk
 ·refine wpAny_storeName_local hk hn (fun h' hn' hs => ?_) hcls
  obtain ⟨oL, _, _, hoL, _⟩ := id hn
  refine h _ ⟨I.ok, I.os, I.bare, ⟨fun b o e n hb hx => ?_, fun b o e n hb hx => ?_, I.base.free, fun b o e hx => ?_, I.base.tups, I.base.frzs, I.base.tbls⟩, ⟨_, hn', fun j y v' e1 e2 e3 => ?_⟩, fun y c e => ?_, I.free, I.freeC, fun p hp => ?_, tracked ⟨oL, hoL, I.free⟩ hs, by simpa using I.len⟩ ⟨_, hs, .inl rfl⟩
  ·exact (hs.2 b (Nat.ne_of_lt (Nat.lt_of_lt_of_le (Heap.lt_size e) I.ok.above))).trans (I.base.keep b o e n hb hx)
  ·obtain ⟨sl, e1⟩ := I.base.slot b o e n hb hx
   exact ⟨sl, (hs.2 b (Nat.ne_of_lt (Nat.lt_of_lt_of_le (Heap.lt_size e) I.ok.above))).trans e1⟩
  ·obtain ⟨o', e1⟩ := I.base.there b o e hx
   exact ⟨o', (hs.2 b (Nat.ne_of_lt (Nat.lt_of_lt_of_le (Heap.lt_size e) I.ok.above))).trans e1⟩
  ·by_cases hj : j = i
   ·subst hj
    rw [hi] at e1; cases e1
    rw [List.getElem?_set_self hiσ] at e2
    cases e2
    exact ⟨u, r, .inl ⟨hk, by simp⟩⟩
   ·rw [List.getElem?_set_ne (Ne.symm hj)] at e2
    obtain ⟨u', r', q⟩ := hl j y v' e1 e2 e3
    refine ⟨u', r', ?_⟩
    rcases q with ⟨k, e⟩ | ⟨k, c, e, z⟩
    ·refine .inl ⟨k, ?_⟩
     have : y ≠ x := fun e => hj (zagj hN e1 (e ▸ hi))
     simp [this, e]
    ·exact .inr ⟨k, c, e, z.sameBut hs (cne y c e)⟩
  ·obtain ⟨w', z⟩ := I.cell y c e
   exact ⟨w', z.sameBut hs (cne y c e)⟩
  ·obtain ⟨e, n, ne, nf, d⟩ := I.pin p hp
   exact ⟨(hs.2 p.1 ne).trans e, n, ne, nf, d⟩
 ·have hfn : X.fn x = true := by
   rcases hf with z | z
   ·exact z
   ·rw [z] at hk; cases hk
  obtain ⟨c, hc⟩ := I.ok.has x (.inl hk)
  obtain ⟨w', z⟩ := I.cell x c hc
  refine wpAny_storeName_cell I.ok.kind hk hc z (fun h' hc' hs => ?_)
  obtain ⟨oc, hoc, hocd⟩ := id z
  refine h { s with heap := h' } ⟨I.ok, I.os, I.bare, ⟨fun b o e n hb hx => ?_, fun b o e n hb hx => ?_, I.base.free, fun b o e hx => ?_, I.base.tups, I.base.frzs, I.base.tbls⟩, ⟨m, hn.sameBut hs (Ne.symm (cne x c hc)), fun j y v' e1 e2 e3 => ?_⟩, fun y c' e => ?_, I.free, I.freeC, fun p hp => ?_, tracked ⟨oc, hoc, I.freeC x c hc⟩ hs, by simpa using I.len⟩ ⟨c, hs, .inr hc⟩
  ·exact (hs.2 b (Nat.ne_of_lt (Nat.lt_of_lt_of_le (Heap.lt_size e) (I.ok.cab x c hfn hc)))).trans (I.base.keep b o e n hb hx)
  ·obtain ⟨sl, e1⟩ := I.base.slot b o e n hb hx
   exact ⟨sl, (hs.2 b (Nat.ne_of_lt (Nat.lt_of_lt_of_le (Heap.lt_size e) (I.ok.cab x c hfn hc)))).trans e1⟩
  ·obtain ⟨o', e1⟩ := I.base.there b o e hx
   exact ⟨o', (hs.2 b (Nat.ne_of_lt (Nat.lt_of_lt_of_le (Heap.lt_size e) (I.ok.cab x c hfn hc)))).trans e1⟩
  ·by_cases hj : j = i
   ·subst hj
    rw [hi] at e1; cases e1
    rw [List.getElem?_set_self hiσ] at e2
    cases e2
    exact ⟨u, r, .inr ⟨.inl hk, c, hc, hc'⟩⟩
   ·rw [List.getElem?_set_ne (Ne.symm hj)] at e2
    obtain ⟨u', r', q⟩ := hl j y v' e1 e2 e3
    refine ⟨u', r', ?_⟩
    rcases q with q | ⟨k, c', e, z'⟩
    ·exact .inl q
    ·refine .inr ⟨k, c', e, z'.sameBut hs ?_⟩
     rintro rfl
     exact hj (zagj hN e1 (I.ok.inj _ _ _ e hc ▸ hi))
  ·by_cases hcc : c' = c
   ·subst hcc; exact ⟨_, hc'⟩
   ·obtain ⟨w2, z2⟩ := I.cell y c' e
    exact ⟨w2, z2.sameBut hs hcc⟩
  ·obtain ⟨e, n, ne, nf, d⟩ := I.pin p hp
   refine ⟨(hs.2 p.1 ?_).trans e, n, ne, nf, d⟩
   intro q
   rw [q, hoc] at e
   have q' : oc = p.2 := Option.some.inj e
   exact d w' (by rw [← q']; exact hocd)
theorem zae0 {M : Model} {A : Around} {E : Value → Shared → Prop} {i : Nat} {x : Str} {v : V} {u : Value} {Q : Unit → Shared → Prop} (I : Inv X pins σ H s) (hN : X.N.Nodup) (hi : X.N[i]? = some x) (hx : Loc X.env.scope x) (r : RelV v u)
  (h : ∀ s', Inv X pins (σ.set i (some v)) H s' → Q () s') (hf : X.fn x = true ∨ X.env.scope.names.lookup x = some .local := by first | exact .inl rfl | exact .inr rfl | assumption) : wpAny M A (storeName X.env x u) Q E s :=
 zaho I hN hi hx r (fun s' I' _ => h s' I') hf
theorem Inv.call' {s' : Shared} {ch : List Addr} (I : Inv X pins σ H s) (ho : s'.os = s.os) (u : Un (frs X.stack) ch H H' s.heap s'.heap) (hok : HOk X.prog X.w H' s'.heap) (hg : AllBare s'.gens)
  (hch : ∀ b ∈ ch, (b ∈ X.ex ∨ X.s₀.heap.objs.size ≤ b) ∧ b ≠ X.env.locals ∧ (∀ x c, X.env.cells.lookup x = some c → c ≠ b) ∧ ∀ p ∈ X.pn ++ pins, p.1 ≠ b) : Inv X pins σ H' s' := by
 obtain ⟨h', g', d', t', o'⟩ := s'
 have e : o' = s.os := ho
 subst e
 exact I.call (g' := g') (t' := t') (d' := d') u hok hg hch
end
abbrev XK := Value → Option Addr → Hp → Prop
abbrev St := List (Option V)
abbrev VK := V → Hp → Prop
abbrev TE := St → Hp → VK → Prop
abbrev TT := St → Hp → (Bool → Hp → Prop) → Prop
abbrev TA := St → Hp → (List V → Hp → Prop) → Prop
structure Ends where
 nx : St → Hp → Prop
 rt : VK
 bk : St → Hp → Prop := fun _ _ => False
 ct : St → Hp → Prop := fun _ _ => False
abbrev TS := Ends → St → Hp → Prop
def EP (X : Cx) (pins : List (Addr × Obj)) (σ : St) (Q : VK) (u : Value) (s' : Shared) : Prop := ∃ v H', Inv X pins σ H' s' ∧ RelV v u ∧ Q v H'
def TP (X : Cx) (pins : List (Addr × Obj)) (σ : St) (Q : Bool → Hp → Prop) (b : Bool) (s' : Shared) : Prop := ∃ H', Inv X pins σ H' s' ∧ Q b H'
def AP (X : Cx) (pins : List (Addr × Obj)) (σ : St) (Q : List V → Hp → Prop) (us : List Value) (s' : Shared) : Prop := ∃ vs H', Inv X pins σ H' s' ∧ Vals vs us ∧ Q vs H'
def SP (X : Cx) (pins : List (Addr × Obj)) (D : Ends) (f : Flow) (s' : Shared) : Prop :=
 match f with
 | .next => ∃ σ' H', Inv X pins σ' H' s' ∧ D.nx σ' H'
 | .brk => ∃ σ' H', Inv X pins σ' H' s' ∧ D.bk σ' H'
 | .cont => ∃ σ' H', Inv X pins σ' H' s' ∧ D.ct σ' H'
 | .ret u => ∃ v σ' H', Inv X pins σ' H' s' ∧ RelV v u ∧ D.rt v H'
def PE (X : Cx) (e : Expr) (t : TE) : Prop :=
 ∀ (pins : List (Addr × Obj)) (s : Shared) (σ : St) (H : Hp) (Q : VK), Inv X pins σ H s → t σ H Q → wpAny (model X.prog X.w) X.A (eval e X.env) (EP X pins σ Q) X.xe s
def PT (X : Cx) (e : Expr) (t : TT) : Prop :=
 ∀ (pins : List (Addr × Obj)) (s : Shared) (σ : St) (H : Hp) (Q : Bool → Hp → Prop), Inv X pins σ H s → t σ H Q → wpAny (model X.prog X.w) X.A (isTrue e X.env (eval e X.env)) (TP X pins σ Q) X.xe s
def PW (X : Cx) (e : Expr) (t : TT) : Prop :=
 ∀ (whole : Sem Value) (pins : List (Addr × Obj)) (s : Shared) (σ : St) (H : Hp) (Q : Bool → Hp → Prop), Inv X pins σ H s → t σ H Q → wpAny (model X.prog X.w) X.A (isTrue e X.env whole) (TP X pins σ Q) X.xe s
theorem PW.pt {X : Cx} {e : Expr} {t : TT} (h : PW X e t) : PT X e t := h _
def PA (X : Cx) (es : List Expr) (t : TA) : Prop :=
 ∀ (pos : Pos) (pins : List (Addr × Obj)) (s : Shared) (σ : St) (H : Hp) (Q : List V → Hp → Prop), Inv X pins σ H s → t σ H Q → wpAny (model X.prog X.w) X.A (spliced (backTo pos (starEach es X.env))) (AP X pins σ Q) X.xe s
def PS (X : Cx) (st : Stmt) (t : TS) : Prop :=
 ∀ (pins : List (Addr × Obj)) (s : Shared) (σ : St) (H : Hp) (D : Ends), Inv X pins σ H s → t D σ H → wpAny (model X.prog X.w) X.A (exec st X.env) (SP X pins D) X.xe s
def PSs (X : Cx) (st : List Stmt) (t : TS) : Prop :=
 ∀ (pins : List (Addr × Obj)) (s : Shared) (σ : St) (H : Hp) (D : Ends), Inv X pins σ H s → t D σ H → wpAny (model X.prog X.w) X.A (execs st X.env) (SP X pins D) X.xe s
theorem thn {α : Type} {t : Sem α} {Q Q' : α → Shared → Prop} {M : Model} {A : Around} {E : Value → Shared → Prop} {s : Shared} (h : wpAny M A t Q E s) (hQ : ∀ a s, Q a s → Q' a s) : wpAny M A t Q' E s := wpAny_mono h hQ fun _ _ x => x
section
variable {X : Cx}
def tVar (i : Nat) : TE := fun σ H Q => ∃ v, σ[i]? = some (some v) ∧ Q v H
def tC (v : V) : TE := fun _ H Q => Q v H
theorem zata {i : Nat} {x : Str} {pos : Pos} (hN : X.N[i]? = some x) (hv : Vis X.env.scope x) (hd : (x == ("__debug__" : Str)) = false := by decide) (hcd : (x == ("__classdict__" : Str)) = false := by decide) : PE X (.Name x pos) (tVar i) := by
 intro pins s σ H Q I h
 obtain ⟨v, e, h⟩ := h
 obtain ⟨m, hn, hl⟩ := I.loc
 obtain ⟨u, r, l⟩ := hl i x v hN e hv
 have fin : EP X pins σ Q u s := ⟨v, H, I, r, h⟩
 rcases l with ⟨hk, hm⟩ | ⟨hk, c, hc, hcell⟩
 ·exact wpAny_Name (wpAny_loadName_local I.ok.kind hk hn hm fin) hd
 ·rcases hk with hk | hk
  ·exact wpAny_Name (wpAny_loadName_cell I.ok.kind hk hc hcell fin) hd
  ·exact wpAny_Name (wpAny_loadName_free I.ok.kind hk hc hcell fin hcd) hd
theorem zatb {i j pos} : PE X (.Constant (.int i) j pos) (tC (.int i)) := fun _ _ _ H _ I h => wpAny_Constant_int ⟨.int i, H, I.tok _, ⟨_, rfl⟩, h⟩
theorem zau7 {b j pos} : PE X (.Constant (.bool b) j pos) (tC (.bl b)) := fun _ _ _ H _ I h => Constant_bool ⟨.bl b, H, I, rfl, h⟩
theorem zatc {j pos} : PE X (.Constant .none j pos) (tC .non) := fun _ _ _ H _ I h => Constant_none ⟨.non, H, I, rfl, h⟩
theorem zatd {x j pos} : PE X (.Constant (.str x) j pos) (tC (.str x)) := fun _ _ _ H _ I h => Calls.Constant_str ⟨.str x, H, I.tok _, ⟨_, rfl⟩, h⟩
def Gl (X : Cx) (x : Str) : Prop := X.env.kindOf x = some .globalImplicit
theorem zaeb {E : Value → Shared → Prop} {pins : List (Addr × Obj)} {s : Shared} {σ : St} {H : Hp} {x : Str} {u : Value} {pos : Pos} {Q : Value → Shared → Prop} (I : Inv X pins σ H s) (hg : Gl X x) (hm : X.mg x = some u) (h : Q u s)
  (hd : (x == ("__debug__" : Str)) = false := by decide) : wpAny (model X.prog X.w) X.A (eval (.Name x pos) X.env) Q E s :=
 Calls.Name_function_global I.ok.kind hg (Calls.loadGlobal_global (by rw [I.ok.glob]; exact I.mod.glob.keeps I.bk) hm h) hd
theorem zaf8 {E : Value → Shared → Prop} {pins : List (Addr × Obj)} {s : Shared} {σ : St} {H : Hp} {x : Str} {u : Value} {pos : Pos} {Q : Value → Shared → Prop} (I : Inv X pins σ H s) (hg : Gl X x) (hm : X.mg x = none) (hv : bootBuiltins x = some u) (h : Q u s)
  (hn : x ≠ "__name__" := by decide) (hd : (x == ("__debug__" : Str)) = false := by decide) : wpAny (model X.prog X.w) X.A (eval (.Name x pos) X.env) Q E s := by
 obtain ⟨mb, h1, h2⟩ := I.mod.blt
 exact Calls.Name_function_global I.ok.kind hg (Calls.loadGlobal_builtin (by rw [I.ok.glob]; exact I.mod.glob.keeps I.bk) hm (by rw [I.ok.blt]; exact h1.keeps I.bk) ((h2 x hn).trans hv) h) hd
theorem zalb {x : Str} {v : V} {u : Value} {pos : Pos} (hg : Gl X x) (hm : X.mg x = some u) (r : RelV v u) (hd : (x == ("__debug__" : Str)) = false := by decide) : PE X (.Name x pos) (tC v) :=
 fun _ _ _ H _ I h => zaeb I hg hm ⟨v, H, I, r, h⟩ hd
theorem zaq1 {x : Str} {v : V} {u : Value} {pos : Pos} (hg : Gl X x) (hm : X.mg x = none) (hv : bootBuiltins x = some u) (r : RelV v u) (hn : x ≠ "__name__" := by decide) (hd : (x == ("__debug__" : Str)) = false := by decide) : PE X (.Name x pos) (tC v) :=
 fun _ _ _ H _ I h => zaf8 I hg hm hv ⟨v, H, I, r, h⟩ hn hd
def t2I (ta tb : TE) (k : Int → Int → Hp → Prop) : St → Hp → Prop := fun σ H => ta σ H fun x H1 => tb σ H1 fun y H2 => ∃ i j, x = .int i ∧ y = .int j ∧ k i j H2
def tAdd (ta tb : TE) : TE := fun σ H Q => t2I ta tb (fun i j H2 => Q (.int (i + j)) H2) σ H
def tSub (ta tb : TE) : TE := fun σ H Q => t2I ta tb (fun i j H2 => Q (.int (i - j)) H2) σ H
def tMul (ta tb : TE) : TE := fun σ H Q => t2I ta tb (fun i j H2 => (-(2 ^ 64) < i ∧ i < 2 ^ 64) ∧ Q (.int (i * j)) H2) σ H
variable {a b : Expr} {ta tb : TE} {pos : Pos}
def PC (X : Cx) (op : CmpOp) (a b : Expr) (t : TE) : Prop :=
 ∀ (pins : List (Addr × Obj)) (s : Shared) (σ : St) (H : Hp) (Q : VK), Inv X pins σ H s → t σ H Q →
  wpAny (model X.prog X.w) X.A (eval a X.env) (fun v s₁ => wpAny (model X.prog X.w) X.A (eval b X.env) (fun u s₂ => wpAny (model X.prog X.w) X.A (compareOp op v u) (EP X pins σ Q) X.xe s₂) X.xe s₁) X.xe s
def tCmp (p : Int → Int → Bool) (ta tb : TE) : TE := fun σ H Q => t2I ta tb (fun i j H2 => Q (.bl (p i j)) H2) σ H
abbrev tLt : TE → TE → TE := tCmp fun i j => decide (i < j)
abbrev tLe : TE → TE → TE := tCmp fun i j => decide (i ≤ j)
abbrev tGt : TE → TE → TE := tCmp fun i j => decide (j < i)
abbrev tGe : TE → TE → TE := tCmp fun i j => decide (j ≤ i)
abbrev tEqI : TE → TE → TE := tCmp fun i j => decide (i = j)
abbrev tNeI : TE → TE → TE := tCmp fun i j => !decide (i = j)
def tIsN (ta : TE) : TE := fun σ H Q => ta σ H fun x H1 => Q (.bl (decide (x = .non))) H1
def tNotN (ta : TE) : TE := fun σ H Q => ta σ H fun x H1 => Q (.bl (!decide (x = .non))) H1
def tB (t : TE) : TT := fun σ H Q => t σ H fun x H1 => ∃ c, x = .bl c ∧ Q c H1
theorem zate {op : CmpOp} {t : TE} (h : PC X op a b t) (h1 : behindInMarks op b = false := by first | exact nobehind _ (by decide) (by decide) | rfl) : PE X (.Compare a [op] [b] pos) t := fun pins s σ H Q I hw => wpAny_Compare1 (h pins s σ H Q I hw) h1
theorem zatf {op : CmpOp} {t : TE} (h : PC X op a b t) (h1 : behindInMarks op b = false := by first | exact nobehind _ (by decide) (by decide) | rfl) : PT X (.Compare a [op] [b] pos) (tB t) := by
 intro pins s σ H Q I hw
 refine wpAny_isTrue_Compare1 (thn (h pins s σ H _ I hw) fun v s1 h1 => thn h1 fun u s2 h2 => thn h2 fun c s3 ⟨x, H1, I1, r1, q1⟩ => ?_) h1
 obtain ⟨d, rfl, q⟩ := q1
 cases r1
 exact wpAny_truthy_bool ⟨H1, I1, q⟩
theorem zatg {e : Expr} {t : TE} (h : PE X e t) (he : ∀ whole, isTrue e X.env whole = (do let v ← whole; standAt e.pos; holding [v] (truthy v)) := by intro _; rfl) : PT X e (tB t) := by
 intro pins s σ H Q I hw
 refine isTrue_plain (thn (h pins s σ H _ I hw) fun v s1 ⟨x, H1, I1, r1, q1⟩ => ?_) (he _)
 obtain ⟨d, rfl, q⟩ := q1
 cases r1
 exact wpAny_truthy_bool ⟨H1, I1, q⟩
variable {tA tB' : TT} {rest : List Expr}
def tAnd (t u : TT) : TT := fun σ H Q => t σ H fun c H1 => if c = true then u σ H1 Q else Q false H1
def tOr (t u : TT) : TT := fun σ H Q => t σ H fun c H1 => if c = true then Q true H1 else u σ H1 Q
def tNot (t : TT) : TT := fun σ H Q => t σ H fun c H1 => Q (!c) H1
theorem zaq2 (ha : PT X a tA) : PW X (.BoolOp .And [a] pos) tA := by
 intro wh pins s σ H Q I h
 refine isTrue_and (thn (ha pins s σ H Q I h) fun c s1 e => ?_)
 cases c with
 | true => exact isTrue_and_nil e
 | false => exact e
theorem zath (ha : PT X a tA) : PW X (.BoolOp .Or [a] pos) tA := by
 intro wh pins s σ H Q I h
 refine isTrue_or (thn (ha pins s σ H Q I h) fun c s1 e => ?_)
 cases c with
 | false => exact isTrue_or_nil e
 | true => exact e
theorem zati (ha : PT X a tA) (hb : PW X (.BoolOp .And (b :: rest) pos) tB') : PW X (.BoolOp .And (a :: b :: rest) pos) (tAnd tA tB') := by
 intro wh pins s σ H Q I h
 refine isTrue_and (thn (ha pins s σ H _ I h) fun c s1 ⟨H1, I1, q1⟩ => ?_)
 cases c with
 | true => exact hb wh pins s1 σ H1 Q I1 q1
 | false => exact ⟨H1, I1, q1⟩
theorem zau8 (ha : PT X a tA) (hb : PW X (.BoolOp .Or (b :: rest) pos) tB') : PW X (.BoolOp .Or (a :: b :: rest) pos) (tOr tA tB') := by
 intro wh pins s σ H Q I h
 refine isTrue_or (thn (ha pins s σ H _ I h) fun c s1 ⟨H1, I1, q1⟩ => ?_)
 cases c with
 | true => exact ⟨H1, I1, q1⟩
 | false => exact hb wh pins s1 σ H1 Q I1 q1
theorem zatj (ha : PT X a tA) : PT X (.UnaryOp .Not a pos) (tNot tA) := by
 intro pins s σ H Q I h
 exact isTrue_not (ha pins s σ H (fun c H1 => Q (!c) H1) I h)
def tAndV (ta tb : TE) : TE := fun σ H Q => ta σ H fun x H1 => ∃ c, x = .bl c ∧ if c = true then tb σ H1 Q else Q (.bl false) H1
def tOrV (ta tb : TE) : TE := fun σ H Q => ta σ H fun x H1 => ∃ c, x = .bl c ∧ if c = true then Q (.bl true) H1 else tb σ H1 Q
def tNotV (ta : TE) : TE := fun σ H Q => ta σ H fun x H1 => ∃ c, x = .bl c ∧ Q (.bl (!c)) H1
theorem zatk {op} {t : TE} (h : PE X a t) : PE X (.BoolOp op [a] pos) t := fun pins s σ H Q I hw => BoolOp_one (h pins s σ H Q I hw)
theorem zatl (ha : PE X a ta) (hb : PE X (.BoolOp .And (b :: rest) pos) tb) : PE X (.BoolOp .And (a :: b :: rest) pos) (tAndV ta tb) := by
 intro pins s σ H Q I h
 refine BoolOp_and (thn (ha pins s σ H _ I h) fun v s1 ⟨x, H1, I1, r1, q1⟩ => ?_)
 obtain ⟨c, rfl, q1⟩ := q1
 cases r1
 refine wpAny_truthy_bool ?_
 cases c with
 | true => exact hb pins s1 σ H1 Q I1 q1
 | false => exact ⟨.bl false, H1, I1, rfl, q1⟩
theorem zatm (ha : PE X a ta) : PE X (.UnaryOp .Not a pos) (tNotV ta) := by
 intro pins s σ H Q I h
 refine UnaryOp_ (thn (ha pins s σ H _ I h) fun v s1 ⟨x, H1, I1, r1, q1⟩ => ?_)
 obtain ⟨c, rfl, q1⟩ := q1
 cases r1
 exact not_of (wpAny_truthy_bool ⟨.bl (!c), H1, I1, rfl, q1⟩)
def tIf (t : TT) (ta tb : TE) : TE := fun σ H Q => t σ H fun c H1 => if c = true then ta σ H1 Q else tb σ H1 Q
end
def SqL (K : PySem.W.Frag) (H : Hp) (a : Addr) (xs : List V) : Prop :=
 Rd H a (.lst xs) ∨
  ∃ (o : Obj) (its : Array Value) (n : Nat), K.lookup a = some o ∧ o.cls = .type "list" ∧ o.dict = none ∧ o.data = .seq its n ∧ its.size ≤ sizeLine ∧ Vals xs its.toList
def SqT (K : PySem.W.Frag) (H : Hp) (a : Addr) (xs : List V) : Prop :=
 Rd H a (.tup xs) ∨
  ∃ (o : Obj) (its : Array Value) (n : Nat), K.lookup a = some o ∧ o.cls = .type "tuple" ∧ o.data = .seq its n ∧ its.size ≤ sizeLine ∧ Vals xs its.toList
def absV : Value → Option V
 | .none => some .non
 | .bool b => some (.bl b)
 | .int i _ => some (.int i)
 | .str x _ => some (.str x)
 | .bytes b _ => some (.byt b)
 | .float b _ => some (.flt b)
 | .ref a => some (.ref a)
 | .type n => some (.ty n)
 | _ => none
theorem RelV.abs {x : V} {u : Value} (r : RelV x u) : absV u = some x := by
 cases x with
 | non => cases r; rfl
 | bl _ => cases r; rfl
 | int _ => obtain ⟨t, rfl⟩ := r; rfl
 | str _ => obtain ⟨t, rfl⟩ := r; rfl
 | byt _ => obtain ⟨t, rfl⟩ := r; rfl
 | flt _ => obtain ⟨t, rfl⟩ := r; rfl
 | ref _ => cases r; rfl
 | ty _ => cases r; rfl
theorem RelV.inj {x y : V} {u : Value} (r : RelV x u) (q : RelV y u) : x = y := Option.some.inj (r.abs.symm.trans q.abs)
theorem Vals.inj : ∀ {xs ys : List V} {us : List Value}, Vals xs us → Vals ys us → xs = ys
 | _, _, _, .nil, .nil => rfl
 | _, _, _, .cons r t, .cons r' t' => by rw [r.inj r', Vals.inj t t']
section
variable {X : Cx} {pins : List (Addr × Obj)} {σ : St} {H : Hp} {s : Shared} {a : Addr} {xs ys : List V}
theorem SqL.of {K : PySem.W.Frag} (h : H a = some (.lst xs)) : SqL K H a xs := .inl (.inl h)
theorem SqT.of {K : PySem.W.Frag} (h : H a = some (.tup xs)) : SqT K H a xs := .inl (.inl h)
theorem Inv.list (I : Inv X pins σ H s) (h : SqL X.K H a xs) : ∃ its : List Value, Vals xs its ∧ PlainL s.heap a its.toArray ∧ xs.length ≤ sizeLine := by
 rcases h with h | ⟨o, its, n, hk, hc, hd, hs, hz, r⟩
 ·obtain ⟨z, its, n, r, e⟩ := h.ok I.hok
  exact ⟨its, r, ⟨_, n, e, rfl, rfl, rfl⟩, z⟩
 ·refine ⟨its.toList, r, ⟨o, n, I.kIn a o hk, hc, hd, by simpa using hs⟩, ?_⟩
  have e := r.length
  simp only [Array.length_toList] at e
  omega
theorem Inv.tuple (I : Inv X pins σ H s) (h : SqT X.K H a xs) : ∃ its : List Value, Vals xs its ∧ IsTup s.heap a its.toArray ∧ xs.length ≤ sizeLine := by
 rcases h with h | ⟨o, its, n, hk, hc, hs, hz, r⟩
 ·obtain ⟨z, its, r, p⟩ := h.ok I.hok
  exact ⟨its, r, p, z⟩
 ·refine ⟨its.toList, r, ⟨o, I.kIn a o hk, hc, n, by simpa using hs⟩, ?_⟩
  have e := r.length
  simp only [Array.length_toList] at e
  omega
theorem Inv.list_inj (I : Inv X pins σ H s) (h : SqL X.K H a xs) (h' : SqL X.K H a ys) : xs = ys := by
 obtain ⟨its, r, ⟨o, n, e, _, _, d⟩, _⟩ := I.list h
 obtain ⟨its', r', ⟨o', n', e', _, _, d'⟩, _⟩ := I.list h'
 rw [e] at e'; cases e'
 rw [d] at d'
 injection d' with d1 _
 have : its = its' := by simpa using congrArg Array.toList d1
 subst this
 exact r.inj r'
theorem Inv.tuple_inj (I : Inv X pins σ H s) (h : SqT X.K H a xs) (h' : SqT X.K H a ys) : xs = ys := by
 obtain ⟨its, r, ⟨o, e, _, n, d⟩, _⟩ := I.tuple h
 obtain ⟨its', r', ⟨o', e', _, n', d'⟩, _⟩ := I.tuple h'
 rw [e] at e'; cases e'
 rw [d] at d'
 injection d' with d1 _
 have : its = its' := by simpa using congrArg Array.toList d1
 subst this
 exact r.inj r'
end
abbrev Cx.wish (X : Cx) (E : Value → Shared → Prop) : Cx := { X with xe := E }
abbrev Cx.nox (X : Cx) : Cx := X.wish fun _ _ => False
theorem Cx.Ok.wish {X : Cx} (ok : X.Ok) (E : Value → Shared → Prop) : (X.wish E).Ok :=
 ⟨ok.mod, ok.kind, ok.glob, ok.blt, ok.above, ok.inj, ok.has, ok.cab, ok.hd, ok.frames, ok.stk, ok.exf, ok.bs, ok.bsz, ok.noex, ok.exfs, ok.funs, ok.frf⟩
theorem Cx.Ok.unwish {X : Cx} {E : Value → Shared → Prop} (ok : (X.wish E).Ok) : X.Ok :=
 ⟨ok.mod, ok.kind, ok.glob, ok.blt, ok.above, ok.inj, ok.has, ok.cab, ok.hd, ok.frames, ok.stk, ok.exf, ok.bs, ok.bsz, ok.noex, ok.exfs, ok.funs, ok.frf⟩
section
variable {X : Cx} {pins : List (Addr × Obj)} {σ : St} {H : Hp} {s : Shared} {E : Value → Shared → Prop}
theorem Inv.wish (I : Inv X pins σ H s) (E : Value → Shared → Prop) : Inv (X.wish E) pins σ H s := ⟨I.ok.wish E, I.os, I.bare, I.base, I.loc, I.cell, I.free, I.freeC, I.pin, I.hok, I.len⟩
theorem Inv.unwish (I : Inv (X.wish E) pins σ H s) : Inv X pins σ H s := ⟨I.ok.unwish, I.os, I.bare, I.base, I.loc, I.cell, I.free, I.freeC, I.pin, I.hok, I.len⟩
theorem SP.unwish {D : Ends} {f : Flow} {s' : Shared} (h : SP (X.wish E) pins D f s') : SP X pins D f s' := by
 cases f with
 | next => obtain ⟨σ', H', I, q⟩ := h; exact ⟨σ', H', I.unwish, q⟩
 | brk => obtain ⟨σ', H', I, q⟩ := h; exact ⟨σ', H', I.unwish, q⟩
 | cont => obtain ⟨σ', H', I, q⟩ := h; exact ⟨σ', H', I.unwish, q⟩
 | ret u => obtain ⟨v, σ', H', I, r, q⟩ := h; exact ⟨v, σ', H', I.unwish, r, q⟩
theorem PSs.nox {st : List Stmt} {t : TS} (h : PSs X.nox st t) : PSs X st t := fun pins s σ H D I hw =>
 wpAny_mono (h pins s σ H D (I.wish _) hw) (fun _ _ q => q.unwish) fun _ _ z => False.elim z
end
section
variable {X : Cx} {st : Stmt} {rest : List Stmt} {t u : TS} {e : Expr} {te : TE} {pos : Pos}
def tNext : TS := fun D σ H => D.nx σ H
def tSeq (t u : TS) : TS := fun D σ H => t { D with nx := u D } σ H
theorem zaq3 : PSs X [] tNext := fun _ _ σ H _ I h => wpAny_execs_nil ⟨σ, H, I, h⟩
theorem zajp (h1 : PS X st t) (h2 : PSs X rest u) : PSs X (st :: rest) (tSeq t u) := by
 intro pins s σ H D I h
 refine wpAny_execs_cons (thn (h1 pins s σ H { D with nx := u D } I h) fun f s1 q => ?_)
 cases f with
 | next =>
  obtain ⟨σ', H', I', q⟩ := q
  exact h2 pins s1 σ' H' D I' q
 | ret v => exact q
 | brk => exact q
 | cont => exact q
theorem zaq4 (h1 : PS X st t) : PSs X [st] t := by
 intro pins s σ H D I h
 refine wpAny_execs_cons (thn (h1 pins s σ H D I h) fun f s1 q => ?_)
 cases f with
 | next => exact wpAny_execs_nil q
 | ret v => exact q
 | brk => exact q
 | cont => exact q
def tBreak : TS := fun D σ H => D.bk σ H
def tCont : TS := fun D σ H => D.ct σ H
theorem Inv.quiet {pins : List (Addr × Obj)} {σ : St} {H : Hp} {s : Shared} (I : Inv X pins σ H s) : interactive X.env = false := by simp [interactive, I.ok.kind]
def tDrop (te : TE) : TS := fun D σ H => te σ H fun _ H1 => D.nx σ H1
theorem zaq5 (he : PE X e te) (hs : swapsWith e none pos.line X.env = pure false := by rfl) : PS X (.Expr e pos) (tDrop te) := by
 intro pins s σ H D I h
 exact wpAny_Expr_any (thn (he pins s σ H _ I h) fun v s1 ⟨x, H1, I1, r1, q1⟩ => ⟨σ, H1, I1, q1⟩) I.quiet hs
def tRet (te : TE) : TS := fun D σ H => te σ H D.rt
theorem zatn (he : PE X e te) : PS X (.Return (some e) pos) (tRet te) := by
 intro pins s σ H D I h
 exact wpAny_Return_some (thn (he pins s σ H _ I h) fun v s1 ⟨x, H1, I1, r1, q1⟩ => ⟨x, σ, H1, I1, r1, q1⟩)
def tRetN : TS := fun D _ H => D.rt .non H
def tIfS (c : TT) (t u : TS) : TS := fun D σ H => c σ H fun b H1 => if b = true then t D σ H1 else u D σ H1
theorem zau9 {c : Expr} {a b : List Stmt} {tc : TT} (hc : PT X c tc) (ha : PSs X a t) (hb : PSs X b u) : PS X (.If c a b pos) (tIfS tc t u) := by
 intro pins s σ H D I h
 refine wpAny_If (thn (hc pins s σ H _ I h) fun d s1 ⟨H1, I1, q1⟩ => ?_)
 cases d with
 | true => exact ha pins s1 σ H1 D I1 q1
 | false => exact hb pins s1 σ H1 D I1 q1
def tNever : TS := fun _ _ _ => False
end
abbrev TG := V → St → Hp → (St → Hp → Prop) → Prop
abbrev TGs := List V → St → Hp → (St → Hp → Prop) → Prop
def PG (X : Cx) (target : Expr) (t : TG) : Prop :=
 ∀ (pins : List (Addr × Obj)) (s : Shared) (σ : St) (H : Hp) (v : V) (u : Value) (Q : St → Hp → Prop), Inv X pins σ H s → RelV v u → t v σ H Q →
  wpAny (model X.prog X.w) X.A (assign target X.env u) (fun _ s' => ∃ σ' H', Inv X pins σ' H' s' ∧ Q σ' H') X.xe s
def PGs (X : Cx) (ts : List Expr) (t : TGs) : Prop :=
 ∀ (pins : List (Addr × Obj)) (s : Shared) (σ : St) (H : Hp) (vs : List V) (us : List Value) (Q : St → Hp → Prop), Inv X pins σ H s → Vals vs us → t vs σ H Q →
  wpAny (model X.prog X.w) X.A (assignInOrder ((assignEach ts X.env).map (·.2)) us) (fun _ s' => ∃ σ' H', Inv X pins σ' H' s' ∧ Q σ' H') X.xe s
abbrev TSet := V → V → V → Hp → (Hp → Prop) → Prop
def PSet (X : Cx) (t : TSet) : Prop :=
 ∀ (pins : List (Addr × Obj)) (s : Shared) (σ : St) (H : Hp) (o i v : V) (ov iv u : Value) (Q : Hp → Prop), Inv X pins σ H s → RelV o ov → RelV i iv → RelV v u → t o i v H Q →
  wpAny (model X.prog X.w) X.A (setItem ov iv u) (fun _ s' => ∃ H', Inv X pins σ H' s' ∧ Q H') X.xe s
abbrev TIp := V → V → Hp → VK → Prop
def PIp (X : Cx) (op : Operator) (t : TIp) : Prop :=
 ∀ (pins : List (Addr × Obj)) (s : Shared) (σ : St) (H : Hp) (x y : V) (v u : Value) (Q : VK), Inv X pins σ H s → RelV x v → RelV y u → t x y H Q →
  wpAny (model X.prog X.w) X.A (inplaceOp op v u) (EP X pins σ Q) X.xe s
section
variable {X : Cx} {pos : Pos}
def gName (i : Nat) : TG := fun v σ H Q => Q (σ.set i (some v)) H
theorem zaq6 {i : Nat} {x : Str} (hN : X.N.Nodup) (hi : X.N[i]? = some x) (hx : Loc X.env.scope x) (hf : X.fn x = true ∨ X.env.scope.names.lookup x = some .local := by first | exact .inl rfl | exact .inr rfl | assumption) : PG X (.Name x pos) (gName i) := by
 intro pins s σ H v u Q I r h
 exact wpAny_assign_Name (zae0 I hN hi hx r (fun s' I' => ⟨_, H, I', h⟩) hf)
def gNil : TGs := fun vs σ H Q => vs = [] ∧ Q σ H
def gCons (t : TG) (u : TGs) : TGs := fun vs σ H Q => ∃ v r, vs = v :: r ∧ t v σ H fun σ' H' => u r σ' H' Q
theorem zaq7 : PGs X [] gNil := by
 intro pins s σ H vs us Q I r h
 obtain ⟨e, h⟩ := h
 subst e
 cases r
 exact assignInOrder_nil ⟨σ, H, I, h⟩
theorem zao0 {e : Expr} {es : List Expr} {t : TG} {u : TGs} (h1 : PG X e t) (h2 : PGs X es u)
  (hs : (assignEach (e :: es) X.env).map (·.2) = assign e X.env :: (assignEach es X.env).map (·.2) := by rfl) : PGs X (e :: es) (gCons t u) := by
 intro pins s σ H vs us Q I r h
 obtain ⟨v, vr, e1, h⟩ := h
 subst e1
 cases r with
 | cons r rr =>
  rw [hs]
  refine assignInOrder_cons (thn (h1 pins s σ H _ _ _ I r h) fun _ s1 ⟨σ1, H1, I1, q1⟩ => ?_)
  exact h2 pins s1 σ1 H1 _ _ Q I1 rr q1
def gTup (K : PySem.W.Frag) (n : Nat) (t : TGs) : TG := fun v σ H Q => ∃ a xs, v = .ref a ∧ SqT K H a xs ∧ xs.length = n ∧ t xs σ H Q
theorem zaqg {es : List Expr} {k : Nat} {t : TGs} {n : Nat} (hc : X.calm = true) (h : PGs X es t)
  (hn : (assignEach es X.env).length = n := by rfl) (hst : (assignEach es X.env).findIdx? (·.1) = none := by rfl) : PG X (.Tuple es k pos) (gTup X.K n t) := by
 intro pins s σ H v u Q I r hw
 obtain ⟨a, xs, e1, hq, hl, hw⟩ := hw
 subst e1
 cases r
 obtain ⟨its, rv, ht, hz⟩ := I.tuple hq
 refine assign_Tuple_tuple (I.ok.hd hc) ht (by simp [hn, ← hl, rv.length]) hst fun h' hx => ?_
 have I1 : Inv X pins σ H { s with heap := h' } := I.kept (t' := s.toks) fun b o e => hx b o (Nat.ne_of_lt (Heap.lt_size e)) e
 exact h pins _ σ H xs _ Q I1 (by simpa using rv) hw
def gSub (to ti : TE) (t : TSet) : TG := fun v σ H Q => to σ H fun o H1 => ti σ H1 fun i H2 => t o i v H2 fun H3 => Q σ H3
theorem zato {o i : Expr} {to ti : TE} {t : TSet} (ho : PE X o to) (hi : PE X i ti) (hs : PSet X t)
  (ha : ∀ v, assign (.Subscript o i pos) X.env v = (do
   let ov ← holding [v] (eval o X.env)
   let iv ← holding [v, ov] (eval i X.env)
   standAt pos
   holding [v, ov, iv] (setItem ov iv v)
   release [v, ov, iv] []) := by intro _; rfl) : PG X (.Subscript o i pos) (gSub to ti t) := by
 intro pins s σ H v u Q I r h
 rw [ha]
 refine wpAny_bind (wpAny_holding (thn (ho pins s σ H _ I h) fun ov s1 ⟨x, H1, I1, r1, q1⟩ => ?_))
 refine wpAny_bind (wpAny_holding (thn (hi pins s1 σ H1 _ I1 q1) fun iv s2 ⟨y, H2, I2, r2, q2⟩ => ?_))
 refine wpAny_bind (wpAny_standAt (wpAny_bind (wpAny_holding (thn (hs pins s2 σ H2 x y v ov iv u _ I2 r1 r2 r q2) fun _ s3 ⟨H3, I3, q3⟩ => ?_))))
 exact wpAny_release ⟨σ, H3, I3, q3⟩
def tAsg (te : TE) (g : TG) : TS := fun D σ H => te σ H fun x H1 => g x σ H1 D.nx
theorem zatp {tg e : Expr} {te : TE} {g : TG} (he : PE X e te) (hg : PG X tg g) (hs : swapsWithSole [tg] e pos.line X.env = pure false := by rfl) (hw : swappedStores [tg] e X.env = pure none := by rfl)
  (h1 : (assignEach [tg] X.env).map (·.2) = [assign tg X.env] := by rfl) : PS X (.Assign [tg] e pos) (tAsg te g) := by
 intro pins s σ H D I h
 refine wpAny_Assign_stores (thn (he pins s σ H _ I h) fun v s1 ⟨x, H1, I1, r1, q1⟩ => ?_) hs hw
 rw [h1]
 exact thn (hg pins s1 σ H1 x v _ I1 r1 q1) fun _ s2 q => q
theorem zatq {i : Nat} {x : Str} {e : Expr} {te : TE} {pos' : Pos} (hN : X.N.Nodup) (hi : X.N[i]? = some x) (hx : Loc X.env.scope x) (he : PE X e te) (hs : swapsWith e (some (.Name x pos')) pos.line X.env = pure false := by rfl) (hf : X.fn x = true ∨ X.env.scope.names.lookup x = some .local := by first | exact .inl rfl | exact .inr rfl | assumption) :
  PS X (.Assign [.Name x pos'] e pos) (tAsg te (gName i)) := by
 intro pins s σ H D I h
 refine wpAny_Assign_Name (thn (he pins s σ H _ I h) fun v s1 ⟨y, H1, I1, r1, q1⟩ => ?_) hs
 exact zae0 I1 hN hi hx r1 (fun s2 I2 => ⟨_, H1, I2, q1⟩) hf
def tPar (i j : Nat) (ta : TA) : TS := fun D σ H => ta σ H fun vs H1 => ∃ v w, vs = [v, w] ∧ D.nx ((σ.set i (some v)).set j (some w)) H1
def tAug (i : Nat) (te : TE) (ti : TIp) : TS := fun D σ H => ∃ x, σ[i]? = some (some x) ∧ te σ H fun y H1 => ti x y H1 fun z H2 => D.nx (σ.set i (some z)) H2
def tAugS (to ti te : TE) (tget : V → V → Hp → VK → Prop) (tip : TIp) (tset : TSet) : TS := fun D σ H => to σ H fun o H1 => ti σ H1 fun i H2 => tget o i H2 fun x H3 => te σ H3 fun y H4 => tip x y H4 fun z H5 => tset o i z H5 fun H6 => D.nx σ H6
def PGet (X : Cx) (t : V → V → Hp → VK → Prop) : Prop :=
 ∀ (pins : List (Addr × Obj)) (s : Shared) (σ : St) (H : Hp) (o i : V) (ov iv : Value) (Q : VK), Inv X pins σ H s → RelV o ov → RelV i iv → t o i H Q →
  wpAny (model X.prog X.w) X.A (getItem ov iv) (EP X pins σ Q) X.xe s
def ipI (f : Int → Int → Int) : TIp := fun x y H Q => ∃ i j, x = .int i ∧ y = .int j ∧ Q (.int (f i j)) H
def tWhile (c : TT) (tb : TS) : TS := fun D σ H => ∃ W : Nat → St → Hp → Prop, (∃ m, W m σ H) ∧ ∀ m σ H, W m σ H →
 c σ H fun b H1 => if b = true then ∃ N : St → Hp → Prop, (∀ σ' H', N σ' H' → ∃ m', m' < m ∧ W m' σ' H') ∧ tb { D with nx := N, ct := N, bk := D.nx } σ H1 else D.nx σ H1
theorem zao1 {c : Expr} {body : List Stmt} {tc : TT} {tb : TS} (hp : PassesOwn (model X.prog X.w) X.A X.env X.xe) (hc : PT X c tc) (hb : PSs X body tb) : PS X (.While c body [] pos) (tWhile tc tb) := by
 intro pins s σ H D I h
 obtain ⟨W, ⟨m0, w0⟩, turn⟩ := h
 refine wpAny_While (codeAny_whileLoop (fun n s' => ∃ σ' H', Inv X pins σ' H' s' ∧ W n σ' H') ?_ m0 ⟨σ, H, I, w0⟩)
 rintro n s1 ⟨σ1, H1, I1, w1⟩
 refine wpAny_passesOwn hp (thn (hc pins s1 σ1 H1 _ I1 (turn n σ1 H1 w1)) fun b s2 ⟨H2, I2, q2⟩ => ?_)
 cases b with
 | true =>
  obtain ⟨N, hN, q2⟩ := q2
  rw [if_pos rfl]
  refine wpAny_passesOwn hp (thn (hb pins s2 σ1 H2 _ I2 q2) fun f s3 q3 => ?_)
  cases f with
  | next =>
   obtain ⟨σ3, H3, I3, n3⟩ := q3
   obtain ⟨m', hm, w3⟩ := hN σ3 H3 n3
   exact ⟨m', hm, σ3, H3, I3, w3⟩
  | cont =>
   obtain ⟨σ3, H3, I3, n3⟩ := q3
   obtain ⟨m', hm, w3⟩ := hN σ3 H3 n3
   exact ⟨m', hm, σ3, H3, I3, w3⟩
  | brk => exact q3
  | ret v => exact q3
 | false =>
  rw [if_neg Bool.false_ne_true]
  exact wpAny_execs_nil ⟨σ1, H2, I2, q2⟩
end
structure It where
 go : Nat → Hp → Prop
 yld : Nat → Hp → V → Hp → Prop
 stop : Nat → Hp → Prop
def FpOk (X : Cx) (pins : List (Addr × Obj)) (H : Hp) (b : Addr) : Prop :=
 H b = none ∧ b ≠ X.env.locals ∧ b ∉ X.fs ∧ (b ∈ X.ex ∨ X.s₀.heap.objs.size ≤ b) ∧ (∀ x c, X.env.cells.lookup x = some c → c ≠ b) ∧ ∀ p ∈ X.pn ++ pins, p.1 ≠ b
theorem Inv.fpOk {X : Cx} {pins : List (Addr × Obj)} {σ : St} {H H' : Hp} {s : Shared} {b : Addr} (I : Inv X pins σ H s) (hb : s.heap.objs.size ≤ b) (hn : H' b = none) : FpOk X pins H' b := by
 refine ⟨hn, Nat.ne_of_gt (Nat.lt_of_lt_of_le I.lt hb), I.nofs hb, .inr (Nat.le_trans I.sz hb), fun x c e z => ?_, fun p hp z => ?_⟩
 ·obtain ⟨v, q⟩ := I.cell x c e
  exact absurd (Nat.lt_of_lt_of_le q.lt (by rw [z]; exact hb)) (Nat.lt_irrefl _)
 ·exact absurd (Nat.lt_of_lt_of_le (Heap.lt_size (I.pin p hp).1) (by rw [z]; exact hb)) (Nat.lt_irrefl _)
structure Turn (P : Program) (w : World) (K : PySem.W.Frag) (tg : Expr) (J : It) (fp : List Addr) (it : Addr) (tn : Nat → Heap → Prop) : Prop where
 mem : it ∈ fp
 obj : ∀ i h, tn i h → ∀ b ∈ fp, ∃ o, h.get? b = some o ∧ ∀ v, o.data ≠ .cell v
 keep : ∀ i h h', tn i h → (∀ b ∈ fp, ∀ o, h.get? b = some o → h'.get? b = some o) → tn i h'
 item : ∀ (X : Cx), X.prog = P → X.w = w → X.K = K → X.calm = true → ∀ (i : Nat) (pins : List (Addr × Obj)) (s : Shared) (σ : St) (H : Hp) (E : Value → Shared → Prop), Inv X pins σ H s → (∀ b ∈ fp, FpOk X pins H b) → tn i s.heap → J.go i H →
  wpAny (model P w) X.A (pyNext (.ref it)) (fun r s1 => ∃ u, r = some u ∧
   wpAny (model P w) X.A (letOwnedTupleGo tg (.ref it) u) (fun _ s2 => ∃ x H', Inv X pins σ H' s2 ∧ RelV x u ∧ J.yld i H x H' ∧ tn (i + 1) s2.heap ∧ ∀ b ∈ fp, H' b = none) E s1) E s
 done : ∀ (X : Cx), X.prog = P → X.w = w → X.K = K → X.calm = true → ∀ (i : Nat) (pins : List (Addr × Obj)) (s : Shared) (σ : St) (H : Hp) (E : Value → Shared → Prop), Inv X pins σ H s → (∀ b ∈ fp, FpOk X pins H b) → tn i s.heap → J.stop i H →
  wpAny (model P w) X.A (pyNext (.ref it)) (fun r s1 => r = none ∧ Inv X pins σ H s1) E s
 self : ∀ (A : Around) (i : Nat) (s : Shared) (Q : Value → Shared → Prop) (E : Value → Shared → Prop), tn i s.heap → Q (.ref it) s → wpAny (model P w) A (pyIter (.ref it)) Q E s
abbrev TI := St → Hp → (It → Hp → Prop) → Prop
def PIE (X : Cx) (pins : List (Addr × Obj)) (σ : St) (tg : Expr) (R : It → Hp → Prop) (itv : Value) (s2 : Shared) : Prop :=
 ∃ (it : Addr) (fp : List Addr) (tn : Nat → Heap → Prop) (J : It) (H' : Hp), itv = .ref it ∧ Inv X pins σ H' s2 ∧ Turn X.prog X.w X.K tg J fp it tn ∧ tn 0 s2.heap ∧ (∀ b ∈ fp, FpOk X pins H' b) ∧ R J H'
def PI (X : Cx) (tg iter : Expr) (wi : TI) : Prop :=
 ∀ (pins : List (Addr × Obj)) (s : Shared) (σ : St) (H : Hp) (R : It → Hp → Prop), Inv X pins σ H s → wi σ H R →
  wpAny (model X.prog X.w) X.A (eval iter X.env) (fun v s1 => wpAny (model X.prog X.w) X.A (pyIter v) (PIE X pins σ tg R) X.xe s1) X.xe s
theorem zao2 {M : Model} {A : Around} {E : Value → Shared → Prop} {s : Shared} {tg : Expr} {it : Addr} {u : Value} {o : Obj} {n : String} {vs : Array Value} {Q : Unit → Shared → Prop} (ho : s.heap.get? it = some o) (hc : o.cls = .type n) (hd : o.data = .fields vs)
  (hn : ["enumerate", "zip", "dict_itemiterator", "dict_reverseitemiterator", "odict_iterator", "itertools.zip_longest", "itertools.pairwise"].contains n = false) (hQ : Q () s) : wpAny M A (letOwnedTupleGo tg (.ref it) u) Q E s := by
 unfold letOwnedTupleGo
 cases tg <;> first
  | exact wpAny_pure hQ
  | (cases u <;> first
    | exact wpAny_pure hQ
    | (refine wpAny_bind (wpAny_load ho ?_)
       rw [hc, hd]
       show wpAny M A (if (["enumerate", "zip", "dict_itemiterator", "dict_reverseitemiterator", "odict_iterator", "itertools.zip_longest", "itertools.pairwise"].contains n && vs[0]? == some (rawInt _)) = true then _ else _) Q E s
       rw [if_neg (by intro h; rw [hn, Bool.false_and] at h; cases h)]
       exact wpAny_pure hQ))
def Itl (K : PySem.W.Frag) (a : Addr) : It :=
 ⟨fun i H => ∃ xs x, SqL K H a xs ∧ xs[i]? = some x, fun i H x H' => H' = H ∧ ∀ xs, SqL K H a xs → xs[i]? = some x, fun i H => ∃ xs, SqL K H a xs ∧ xs.length ≤ i⟩
def Itt (K : PySem.W.Frag) (a : Addr) : It :=
 ⟨fun i H => ∃ xs x, SqT K H a xs ∧ xs[i]? = some x, fun i H x H' => H' = H ∧ ∀ xs, SqT K H a xs → xs[i]? = some x, fun i H => ∃ xs, SqT K H a xs ∧ xs.length ≤ i⟩
def Itr (lo : Int) (n : Nat) : It := ⟨fun i _ => i < n, fun i H x H' => H' = H ∧ x = .int (lo + i), fun i _ => n ≤ i⟩
theorem zalc {P : Program} {w : World} {K : PySem.W.Frag} {tg : Expr} (a it : Addr) : Turn P w K tg (Itl K a) [it] it (fun i h => h.IsListIter it a i) where
 mem := by simp
 obj := fun i h st b hb => by
  have e : b = it := by simpa using hb
  subst e
  obtain ⟨o, e, c, d⟩ := st
  exact ⟨o, e, fun v z => by rw [d] at z; cases z⟩
 keep := fun i h h' st k => st.at fun o e => k it (by simp) o e
 item := by
  intro X hP hw hK hc i pins s σ H E I hf st hg
  subst hP hw hK
  obtain ⟨xs, x, hq, hx⟩ := hg
  obtain ⟨its, rv, p, hz⟩ := I.list hq
  obtain ⟨u, hu, ru⟩ := rv.get hx
  obtain ⟨f0, f1, f2, f3, f4, f5⟩ := hf it (by simp)
  refine wpAny_pyNext_list_item st p.isList (x := u) (by simpa using hu) fun h' st' sb => ?_
  have I1 : Inv X pins σ H { s with heap := h' } := I.turned (t' := s.toks) (fun b o hb e => (sb.2 b hb).trans e) f0 f1 f3 f4 f5
  obtain ⟨o, e, c, d⟩ := id st'
  exact ⟨u, rfl, zao2 (s := { s with heap := h' }) e c d (by decide) ⟨x, H, I1, ru, ⟨rfl, fun ys hy => by rw [I.list_inj hy hq]; exact hx⟩, st', fun b hb => (hf b hb).1⟩⟩
 done := by
  intro X hP hw hK hc i pins s σ H E I hf st hg
  subst hP hw hK
  obtain ⟨xs, hq, hx⟩ := hg
  obtain ⟨its, rv, p, hz⟩ := I.list hq
  obtain ⟨f0, f1, f2, f3, f4, f5⟩ := hf it (by simp)
  have hl := rv.length
  exact wpAny_pyNext_list_end (I.ok.hd hc) st p.isList (by simp; omega) fun h' eb => ⟨rfl, I.turned (t' := s.toks) (fun b o hb e => eb b o hb e) f0 f1 f3 f4 f5⟩
 self := fun _ _ _ _ _ st h => wpAny_pyIter_listiter st h
theorem zakc {P : Program} {w : World} {K : PySem.W.Frag} {tg : Expr} (a it : Addr) : Turn P w K tg (Itt K a) [it] it (fun i h => h.IsTupleIter it a i) where
 mem := by simp
 obj := fun i h st b hb => by
  have e : b = it := by simpa using hb
  subst e
  obtain ⟨o, e, c, d⟩ := st
  exact ⟨o, e, fun v z => by rw [d] at z; cases z⟩
 keep := fun i h h' st k => st.at fun o e => k it (by simp) o e
 item := by
  intro X hP hw hK hc i pins s σ H E I hf st hg
  subst hP hw hK
  obtain ⟨xs, x, hq, hx⟩ := hg
  obtain ⟨its, rv, p, hz⟩ := I.tuple hq
  obtain ⟨u, hu, ru⟩ := rv.get hx
  obtain ⟨f0, f1, f2, f3, f4, f5⟩ := hf it (by simp)
  refine wpAny_pyNext_tuple_item st (show s.heap.IsTuple a its.toArray from p) (x := u) (by simpa using hu) fun h' st' sb => ?_
  have I1 : Inv X pins σ H { s with heap := h' } := I.turned (t' := s.toks) (fun b o hb e => (sb.2 b hb).trans e) f0 f1 f3 f4 f5
  obtain ⟨o, e, c, d⟩ := id st'
  exact ⟨u, rfl, zao2 (s := { s with heap := h' }) e c d (by decide) ⟨x, H, I1, ru, ⟨rfl, fun ys hy => by rw [I.tuple_inj hy hq]; exact hx⟩, st', fun b hb => (hf b hb).1⟩⟩
 done := by
  intro X hP hw hK hc i pins s σ H E I hf st hg
  subst hP hw hK
  obtain ⟨xs, hq, hx⟩ := hg
  obtain ⟨its, rv, p, hz⟩ := I.tuple hq
  obtain ⟨f0, f1, f2, f3, f4, f5⟩ := hf it (by simp)
  have hl := rv.length
  exact wpAny_pyNext_tuple_end (I.ok.hd hc) st (show s.heap.IsTuple a its.toArray from p) (by simp; omega) fun h' eb => ⟨rfl, I.turned (t' := s.toks) (fun b o hb e => eb b o hb e) f0 f1 f3 f4 f5⟩
 self := fun _ _ _ _ _ st h => wpAny_pyIter_tupleiter st h
theorem zakd {P : Program} {w : World} {K : PySem.W.Frag} {tg : Expr} (it : Addr) (lo : Int) (n : Nat) : Turn P w K tg (Itr lo n) [it] it (fun i h => IsRangeIter h it (lo + (i : Nat) * 1) ((n : Int) - (i : Nat)) 1) where
 mem := by simp
 obj := fun i h st b hb => by
  have e : b = it := by simpa using hb
  subst e
  exact ⟨_, st, fun v z => by
   have z' : Data.fields _ = Data.cell v := z
   cases z'⟩
 keep := fun i h h' st k => k it (by simp) _ st
 item := by
  intro X hP hw hK hc i pins s σ H E I hf st hg
  subst hP hw hK
  obtain ⟨f0, f1, f2, f3, f4, f5⟩ := hf it (by simp)
  have W := Walks.range (prog := X.prog) (w := X.w) (I.ok.hd hc) it lo 1 n
  refine W.item i s _ _ hg st fun v h' tk hv st' kk => ?_
  obtain ⟨t, rfl⟩ := hv
  have I1 : Inv X pins σ H { s with heap := h', toks := tk } := I.turned (fun b o hb e => kk b o (by simpa using hb) e) f0 f1 f3 f4 f5
  refine ⟨_, rfl, zao2 (s := { s with heap := h', toks := tk }) (n := "range_iterator") st' rfl rfl (by decide) ⟨.int (lo + i), H, I1, ⟨t, ?_⟩, ⟨rfl, rfl⟩, st', fun b hb => (hf b hb).1⟩⟩
  rw [Int.mul_one]
 done := by
  intro X hP hw hK hc i pins s σ H E I hf st hg
  subst hP hw hK
  obtain ⟨f0, f1, f2, f3, f4, f5⟩ := hf it (by simp)
  exact wpAny_pyNext_range_end (I.ok.hd hc) st (by have : n ≤ i := hg; omega) fun h' eb => ⟨rfl, I.turned (t' := s.toks) (fun b o hb e => eb b o hb e) f0 f1 f3 f4 f5⟩
 self := fun _ _ _ _ _ st h => wpAny_pyIter_rangeiter st h
section
variable {X : Cx} {tg : Expr}
def iList (K : PySem.W.Frag) (tl : TE) : TI := fun σ H R => tl σ H fun x H1 => ∃ a, x = .ref a ∧ (∃ xs, SqL K H1 a xs) ∧ R (Itl K a) H1
def iTup (K : PySem.W.Frag) (tl : TE) : TI := fun σ H R => tl σ H fun x H1 => ∃ a, x = .ref a ∧ (∃ xs, SqT K H1 a xs) ∧ R (Itt K a) H1
theorem zald {l : Expr} {tl : TE} (hl : PE X l tl) : PI X tg l (iList X.K tl) := by
 intro pins s σ H R I h
 refine thn (hl pins s σ H _ I h) fun v s1 ⟨x, H1, I1, r1, q1⟩ => ?_
 obtain ⟨a, e, ⟨xs, hq⟩, q⟩ := q1
 subst e
 cases r1
 obtain ⟨its, rv, p, hz⟩ := I1.list hq
 refine wpAny_pyIter_list p.isList ?_
 refine ⟨s1.heap.objs.size, [s1.heap.objs.size], _, _, H1, rfl, I1.kept (t' := s1.toks) fun b o e => Heap.get?_push_of_some _ e, zalc a _, ⟨_, Heap.get?_push_size _ rfl, rfl, rfl⟩, fun b hb => ?_, q⟩
 have e : b = s1.heap.objs.size := by simpa using hb
 subst e
 exact I1.fpOk (Nat.le_refl _) (I1.hok.fresh (Nat.le_refl _))
theorem zaqh {l : Expr} {tl : TE} (hl : PE X l tl) : PI X tg l (iTup X.K tl) := by
 intro pins s σ H R I h
 refine thn (hl pins s σ H _ I h) fun v s1 ⟨x, H1, I1, r1, q1⟩ => ?_
 obtain ⟨a, e, ⟨xs, hq⟩, q⟩ := q1
 subst e
 cases r1
 obtain ⟨its, rv, p, hz⟩ := I1.tuple hq
 refine wpAny_pyIter_tuple (show s1.heap.IsTuple a its.toArray from p) ?_
 refine ⟨s1.heap.objs.size, [s1.heap.objs.size], _, _, H1, rfl, I1.kept (t' := s1.toks) fun b o e => Heap.get?_push_of_some _ e, zakc a _, ⟨_, Heap.get?_push_size _ rfl, rfl, rfl⟩, fun b hb => ?_, q⟩
 have e : b = s1.heap.objs.size := by simpa using hb
 subst e
 exact I1.fpOk (Nat.le_refl _) (I1.hok.fresh (Nat.le_refl _))
theorem zao3 {pins : List (Addr × Obj)} {σ : St} {H : Hp} {s : Shared} {R : It → Hp → Prop} {E : Value → Shared → Prop} {lo hi : Int} {t u v : Tok} {tk : Nat} (I : Inv X pins σ H s) (h1 : -(2 ^ 62) ≤ lo) (h2 : lo < 2 ^ 62) (h3 : -(2 ^ 62) ≤ hi) (h4 : hi < 2 ^ 62)
  (q : R (Itr lo (hi - lo).toNat) H) : wpAny (model X.prog X.w) X.A (pyIter (.ref s.heap.objs.size)) (PIE X pins σ tg R) E { s with heap := s.heap.push { cls := .type "range", data := .fields #[.int lo t, .int hi u, .int 1 v] }, toks := tk } := by
 refine wpAny_pyIter_range (IsRange.new ..) (small_one h1 h2 h3 h4) ?_
 have I1 : Inv X pins σ H { s with heap := s.heap.push { cls := .type "range", data := .fields #[.int lo t, .int hi u, .int 1 v] }, toks := tk } := I.kept fun b o e => Heap.get?_push_of_some _ e
 refine ⟨(s.heap.push { cls := .type "range", data := .fields #[.int lo t, .int hi u, .int 1 v] }).objs.size, [(s.heap.push { cls := .type "range", data := .fields #[.int lo t, .int hi u, .int 1 v] }).objs.size], _, _, H, rfl,
  I1.kept (t' := tk) fun b o e => Heap.get?_push_of_some _ e, zakd _ lo (hi - lo).toNat, ?_, fun b hb => ?_, q⟩
 ·have e1 : lo + ((0 : Nat) : Int) * 1 = lo := by simp
  have e2 : (((hi - lo).toNat : Nat) : Int) - ((0 : Nat) : Int) = Builtin.Range.rangeSize lo hi 1 := by rw [rangeSize_one]; split <;> omega
  show IsRangeIter _ _ (lo + ((0 : Nat) : Int) * 1) ((((hi - lo).toNat : Nat) : Int) - ((0 : Nat) : Int)) 1
  rw [e1, e2]
  exact Heap.get?_push_size _ rfl
 ·have e : b = (s.heap.push { cls := .type "range", data := .fields #[.int lo t, .int hi u, .int 1 v] }).objs.size := by simpa using hb
  subst e
  exact I1.fpOk (Nat.le_refl _) (I1.hok.fresh (Nat.le_refl _))
def iRng1 (ta : TA) : TI := fun σ H R => ta σ H fun vs H1 => ∃ j : Int, vs = [.int j] ∧ -(2 ^ 62) ≤ j ∧ j < 2 ^ 62 ∧ R (Itr 0 j.toNat) H1
def iRng2 (ta : TA) : TI := fun σ H R => ta σ H fun vs H1 => ∃ i j : Int, vs = [.int i, .int j] ∧ (-(2 ^ 62) ≤ i ∧ i < 2 ^ 62 ∧ -(2 ^ 62) ≤ j ∧ j < 2 ^ 62) ∧ R (Itr i (j - i).toNat) H1
theorem zale {a : Expr} {ta : TA} {p pos : Pos} (hg : Gl X "range") (hm : X.mg "range" = none) (ha : PA X [a] ta) (hs : starEach [a] X.env = [(false, eval a X.env)] := by rfl) : PI X tg (.Call (.Name "range" p) [a] [] pos) (iRng1 ta) := by
 intro pins s σ H R I h
 refine Call_ (zaf8 I hg hm boot_range (PyProof.Rows.callWith_type1 (thn (ha pos pins s σ H _ I h) fun us s1 ⟨vs, H1, I1, r1, q1⟩ => ?_) hs rfl))
 obtain ⟨j, e, q1, q2, q⟩ := q1
 subst e
 cases r1 with
 | cons r rr =>
  cases rr
  obtain ⟨t, rfl⟩ := r
  exact call_range_1 (zao3 I1 (by omega) (by omega) q1 q2 (by simpa using q))
def tFor (wi : TI) (g : TG) (tb : TS) : TS := fun D σ H => wi σ H fun J H1 => ∃ W : Nat → Nat → St → Hp → Prop, (∃ m, W 0 m σ H1) ∧ ∀ i m σ H, W i m σ H →
 (J.stop i H ∧ D.nx σ H) ∨ (J.go i H ∧ ∃ N : St → Hp → Prop, (∀ σ' H', N σ' H' → ∃ m', m' < m ∧ W (i + 1) m' σ' H') ∧ ∀ x H', J.yld i H x H' → g x σ H' fun σ2 H2 => tb { D with nx := N, ct := N, bk := D.nx } σ2 H2)
def pinsAt (fp : List Addr) (h : Heap) : List (Addr × Obj) := fp.filterMap fun b => (h.get? b).map fun o => (b, o)
theorem zadg {fp : List Addr} {h : Heap} {b : Addr} {o : Obj} (hb : b ∈ fp) (e : h.get? b = some o) : (b, o) ∈ pinsAt fp h := List.mem_filterMap.mpr ⟨b, hb, by rw [e]; rfl⟩
theorem zahp {fp : List Addr} {h : Heap} {p : Addr × Obj} (hp : p ∈ pinsAt fp h) : p.1 ∈ fp ∧ h.get? p.1 = some p.2 := by
 obtain ⟨b, hb, e⟩ := List.mem_filterMap.mp hp
 cases q : h.get? b with
 | none => rw [q] at e; cases e
 | some o =>
  rw [q] at e
  have e' : (b, o) = p := Option.some.inj e
  subst e'
  exact ⟨hb, q⟩
theorem Inv.pinned {pins : List (Addr × Obj)} {σ : St} {H : Hp} {s : Shared} {fp : List Addr} (I : Inv X pins σ H s) (hf : ∀ b ∈ fp, FpOk X pins H b) (ho : ∀ b ∈ fp, ∃ o, s.heap.get? b = some o ∧ ∀ v, o.data ≠ .cell v) : Inv X (pins ++ pinsAt fp s.heap) σ H s :=
 I.pins_of fun p hp => (List.mem_append.mp hp).elim (fun z => I.pin p (List.mem_append_right _ z)) fun z => by
  obtain ⟨hb, e⟩ := zahp z
  obtain ⟨f0, f1, f2, _⟩ := hf p.1 hb
  obtain ⟨o, e', d⟩ := ho p.1 hb
  rw [e] at e'; cases e'
  exact ⟨e, f0, f1, f2, d⟩
theorem Inv.unpinned {pins pl : List (Addr × Obj)} {σ : St} {H : Hp} {s : Shared} (I : Inv X (pins ++ pl) σ H s) : Inv X pins σ H s := I.pins_of fun p hp => I.pin p (List.mem_append_right _ (List.mem_append_left _ hp))
theorem zatr {iter : Expr} {body : List Stmt} {wi : TI} {g : TG} {tb : TS} {pos : Pos} (hp : PassesOwn (model X.prog X.w) X.A X.env X.xe) (hc : X.calm = true) (hi : PI X tg iter wi) (hg : PG X tg g) (hb : PSs X body tb)
  (hs : ∀ x, foldedSetIterable iter X.env x = pure x := by intro _; rfl) : PS X (.For tg iter body [] pos) (tFor wi g tb) := by
 intro pins s σ H D I h
 refine wpAny_For (thn (hi pins s σ H _ I h) fun v s1 h1 => thn h1 fun itv s2 h2 => ?_) hs
 obtain ⟨it, fp, tn, J, H2, e, I2, T, st2, f2, W, ⟨m0, w0⟩, turn⟩ := h2
 subst e
 have stat : ∀ {H' : Hp}, (∀ b ∈ fp, H' b = none) → ∀ b ∈ fp, FpOk X pins H' b := fun hn b hb => ⟨hn b hb, (f2 b hb).2⟩
 refine codeAny_forLoop_any (fun n s' => ∃ i σ' H', Inv X pins σ' H' s' ∧ tn i s'.heap ∧ (∀ b ∈ fp, H' b = none) ∧ W i n σ' H') ?_ m0 ⟨0, σ, H2, I2, st2, fun b hb => (f2 b hb).1, w0⟩
 rintro n s3 ⟨i, σ3, H3, I3, st3, fr3, w3⟩
 rcases turn i n σ3 H3 w3 with ⟨stop, qn⟩ | ⟨go, N, hN, step⟩
 ·refine wpAny_passesOwn hp (thn (T.done X rfl rfl rfl hc i pins s3 σ3 H3 X.xe I3 (stat fr3) st3 stop) fun r s4 ⟨hr, I4⟩ => ?_)
  subst hr
  exact wpAny_execs_nil ⟨σ3, H3, I4, qn⟩
 ·refine wpAny_passesOwn hp (thn (T.item X rfl rfl rfl hc i pins s3 σ3 H3 X.xe I3 (stat fr3) st3 go) fun r s4 ⟨u, hr, h4⟩ => ?_)
  subst hr
  refine wpAny_passesOwn hp (thn h4 fun _ s5 ⟨x, H5, I5, r5, y5, st5, fr5⟩ => ?_)
  have I5' := I5.pinned (stat fr5) (T.obj _ _ st5)
  refine wpAny_passesOwn hp (thn (hg _ s5 σ3 H5 x u _ I5' r5 (step x H5 y5)) fun _ s6 ⟨σ6, H6, I6, q6⟩ => ?_)
  refine wpAny_passesOwn hp (thn (hb _ s6 σ6 H6 _ I6 q6) fun f s7 q7 => ?_)
  have again : ∀ {σ7 : St} {H7 : Hp}, Inv X (pins ++ pinsAt fp s5.heap) σ7 H7 s7 → N σ7 H7 → ∃ m, m < n ∧ ∃ i σ' H', Inv X pins σ' H' s7 ∧ tn i s7.heap ∧ (∀ b ∈ fp, H' b = none) ∧ W i m σ' H' := fun {σ7 H7} I7 n7 => by
   obtain ⟨m', hm, w7⟩ := hN σ7 H7 n7
   refine ⟨m', hm, i + 1, σ7, H7, I7.unpinned, T.keep _ _ _ st5 fun b hb o e => (I7.pin (b, o) (List.mem_append_right _ (List.mem_append_right _ (zadg hb e)))).1, fun b hb => ?_, w7⟩
   obtain ⟨o, e, d⟩ := T.obj _ _ st5 b hb
   exact (I7.pin (b, o) (List.mem_append_right _ (List.mem_append_right _ (zadg hb e)))).2.1
  cases f with
  | next => obtain ⟨σ7, H7, I7, n7⟩ := q7; exact again I7 n7
  | cont => obtain ⟨σ7, H7, I7, n7⟩ := q7; exact again I7 n7
  | brk => obtain ⟨σ7, H7, I7, q7⟩ := q7; exact ⟨σ7, H7, I7.unpinned, q7⟩
  | ret v => obtain ⟨x7, σ7, H7, I7, r7, q7⟩ := q7; exact ⟨x7, σ7, H7, I7.unpinned, r7, q7⟩
end
theorem zao4 {K : PySem.W.Frag} {a : Addr} {xs : List V} {g : TG} {tb : TS} {D : Ends} {σ : St} {H : Hp} (Pv : Nat → St → Hp → Prop) (h0 : Pv 0 σ H) (hl : ∀ i σ H, i ≤ xs.length → Pv i σ H → SqL K H a xs)
  (hs : ∀ i x σ H, xs[i]? = some x → Pv i σ H → g x σ H fun σ2 H2 => tb { D with nx := Pv (i + 1), ct := Pv (i + 1), bk := D.nx } σ2 H2) (hd : ∀ σ H, Pv xs.length σ H → D.nx σ H) :
  ∃ W : Nat → Nat → St → Hp → Prop, (∃ m, W 0 m σ H) ∧ ∀ i m σ H, W i m σ H →
   ((Itl K a).stop i H ∧ D.nx σ H) ∨ ((Itl K a).go i H ∧ ∃ N : St → Hp → Prop, (∀ σ' H', N σ' H' → ∃ m', m' < m ∧ W (i + 1) m' σ' H') ∧ ∀ x H', (Itl K a).yld i H x H' → g x σ H' fun σ2 H2 => tb { D with nx := N, ct := N, bk := D.nx } σ2 H2) := by
 refine ⟨fun i m σ H => m = xs.length - i ∧ i ≤ xs.length ∧ Pv i σ H, ⟨xs.length, by simp, Nat.zero_le _, h0⟩, ?_⟩
 rintro i m σ H ⟨rfl, hi, p⟩
 have q := hl i σ H hi p
 by_cases hlt : i < xs.length
 ·refine .inr ⟨⟨xs, xs[i], q, by simp [hlt]⟩, Pv (i + 1), fun σ' H' p' => ⟨xs.length - (i + 1), by omega, rfl, hlt, p'⟩, fun x H' y => ?_⟩
  obtain ⟨e, y⟩ := y
  subst e
  exact hs i x σ _ (y xs q) p
 ·have e : i = xs.length := by omega
  subst e
  exact .inl ⟨⟨xs, q, Nat.le_refl _⟩, hd σ H p⟩
theorem zalf {lo : Int} {n : Nat} {g : TG} {tb : TS} {D : Ends} {σ : St} {H : Hp} (Pv : Nat → St → Hp → Prop) (h0 : Pv 0 σ H)
  (hs : ∀ i σ H, i < n → Pv i σ H → g (.int (lo + i)) σ H fun σ2 H2 => tb { D with nx := Pv (i + 1), ct := Pv (i + 1), bk := D.nx } σ2 H2) (hd : ∀ σ H, Pv n σ H → D.nx σ H) :
  ∃ W : Nat → Nat → St → Hp → Prop, (∃ m, W 0 m σ H) ∧ ∀ i m σ H, W i m σ H →
   ((Itr lo n).stop i H ∧ D.nx σ H) ∨ ((Itr lo n).go i H ∧ ∃ N : St → Hp → Prop, (∀ σ' H', N σ' H' → ∃ m', m' < m ∧ W (i + 1) m' σ' H') ∧ ∀ x H', (Itr lo n).yld i H x H' → g x σ H' fun σ2 H2 => tb { D with nx := N, ct := N, bk := D.nx } σ2 H2) := by
 refine ⟨fun i m σ H => m = n - i ∧ i ≤ n ∧ Pv i σ H, ⟨n, by simp, Nat.zero_le _, h0⟩, ?_⟩
 rintro i m σ H ⟨rfl, hi, p⟩
 by_cases hlt : i < n
 ·refine .inr ⟨hlt, Pv (i + 1), fun σ' H' p' => ⟨n - (i + 1), by omega, rfl, hlt, p'⟩, fun x H' y => ?_⟩
  obtain ⟨e, y⟩ := y
  subst e y
  exact hs i σ _ hlt p
 ·have e : i = n := by omega
  subst e
  exact .inl ⟨Nat.le_refl _, hd σ H p⟩
abbrev R2 := V → V → Hp → VK → Prop
def OpR (X : Cx) (f : Value → Value → Sem Value) (r : R2) : Prop :=
 ∀ (pins : List (Addr × Obj)) (s : Shared) (σ : St) (H : Hp) (x y : V) (v u : Value) (Q : VK), Inv X pins σ H s → RelV x v → RelV y u → r x y H Q →
  wpAny (model X.prog X.w) X.A (f v u) (EP X pins σ Q) X.xe s
def UnR (X : Cx) (f : Value → Sem Value) (r : V → Hp → VK → Prop) : Prop :=
 ∀ (pins : List (Addr × Obj)) (s : Shared) (σ : St) (H : Hp) (x : V) (v : Value) (Q : VK), Inv X pins σ H s → RelV x v → r x H Q →
  wpAny (model X.prog X.w) X.A (f v) (EP X pins σ Q) X.xe s
def CallR (X : Cx) (f : Value) (r : List V → Hp → VK → Prop) : Prop :=
 ∀ (pins : List (Addr × Obj)) (s : Shared) (σ : St) (H : Hp) (xs : List V) (us : List Value) (Q : VK), Inv X pins σ H s → Vals xs us → r xs H Q →
  wpAny (model X.prog X.w) X.A (call f us) (EP X pins σ Q) X.xe s
def TruR (X : Cx) (r : V → Hp → (Bool → Hp → Prop) → Prop) : Prop :=
 ∀ (pins : List (Addr × Obj)) (s : Shared) (σ : St) (H : Hp) (x : V) (v : Value) (Q : Bool → Hp → Prop), Inv X pins σ H s → RelV x v → r x H Q →
  wpAny (model X.prog X.w) X.A (truthy v) (TP X pins σ Q) X.xe s
def tOp (r : R2) (ta tb : TE) : TE := fun σ H Q => ta σ H fun x H1 => tb σ H1 fun y H2 => r x y H2 Q
def tUn (r : V → Hp → VK → Prop) (ta : TE) : TE := fun σ H Q => ta σ H fun x H1 => r x H1 Q
def rI (C : Int → Int → Prop) (g : Int → Int → V) : R2 := fun x y H Q => ∃ i j, x = .int i ∧ y = .int j ∧ C i j ∧ Q (g i j) H
def rI0 (g : Int → Int → V) : R2 := fun x y H Q => ∃ i j, x = .int i ∧ y = .int j ∧ Q (g i j) H
def rU (g : Int → V) : V → Hp → VK → Prop := fun x H Q => ∃ i, x = .int i ∧ Q (g i) H
section
variable {X : Cx} {a b c : Expr} {ta tb tc : TE} {pos : Pos}
theorem binT (ha : PE X a ta) (hb : PE X b tb) {pins : List (Addr × Obj)} {s : Shared} {σ : St} {H : Hp} {R : V → V → Hp → Prop} (I : Inv X pins σ H s)
  (h : ta σ H fun x H1 => tb σ H1 fun y H2 => R x y H2) {Q : Value → Shared → Prop} {f : Value → Value → Sem Value}
  (hf : ∀ v u s2 x y H2, Inv X pins σ H2 s2 → RelV x v → RelV y u → R x y H2 → wpAny (model X.prog X.w) X.A (f v u) Q X.xe s2) :
  wpAny (model X.prog X.w) X.A (eval a X.env) (fun v s₁ => wpAny (model X.prog X.w) X.A (eval b X.env) (fun u s₂ => wpAny (model X.prog X.w) X.A (f v u) Q X.xe s₂) X.xe s₁) X.xe s := by
 refine thn (ha pins s σ H _ I h) fun v s1 ⟨x, H1, I1, r1, q1⟩ => ?_
 refine thn (hb pins s1 σ H1 _ I1 q1) fun u s2 ⟨y, H2, I2, r2, q2⟩ => ?_
 exact hf v u s2 x y H2 I2 r1 r2 q2
theorem zava {op : Operator} {r : R2} (ho : OpR X (binaryOp op) r) (ha : PE X a ta) (hb : PE X b tb) : PE X (.BinOp a op b pos) (tOp r ta tb) := by
 intro pins s σ H Q I h
 exact wpAny_BinOp (binT ha hb I h fun v u s2 x y H2 I2 rx ry q => ho pins s2 σ H2 x y v u Q I2 rx ry q)
theorem zavb {op : UnaryOp} {r : V → Hp → VK → Prop} (ho : UnR X (unaryOp op) r) (ha : PE X a ta) : PE X (.UnaryOp op a pos) (tUn r ta) := by
 intro pins s σ H Q I h
 exact UnaryOp_ (thn (ha pins s σ H _ I h) fun v s1 ⟨x, H1, I1, r1, q1⟩ => ho pins s1 σ H1 x v Q I1 r1 q1)
theorem opI {f : Value → Value → Sem Value} {C : Int → Int → Prop} {g : Int → Int → Int}
  (rule : ∀ (i j : Int) (t u : Tok) (s : Shared) (Q : Value → Shared → Prop) (E : Value → Shared → Prop), C i j → Q (.int (g i j) s.toks) { s with toks := s.toks + 1 } → wpAny (model X.prog X.w) X.A (f (.int i t) (.int j u)) Q E s) :
  OpR X f (rI C fun i j => .int (g i j)) := by
 intro pins s σ H x y v u Q I rx ry h
 obtain ⟨i, j, rfl, rfl, hc, q⟩ := h
 obtain ⟨t, rfl⟩ := rx
 obtain ⟨t', rfl⟩ := ry
 exact rule i j t t' s _ _ hc ⟨.int (g i j), H, I.tok _, ⟨_, rfl⟩, q⟩
theorem opI0 {f : Value → Value → Sem Value} {g : Int → Int → Int}
  (rule : ∀ (i j : Int) (t u : Tok) (s : Shared) (Q : Value → Shared → Prop) (E : Value → Shared → Prop), Q (.int (g i j) s.toks) { s with toks := s.toks + 1 } → wpAny (model X.prog X.w) X.A (f (.int i t) (.int j u)) Q E s) :
  OpR X f (rI0 fun i j => .int (g i j)) := by
 intro pins s σ H x y v u Q I rx ry h
 obtain ⟨i, j, rfl, rfl, q⟩ := h
 obtain ⟨t, rfl⟩ := rx
 obtain ⟨t', rfl⟩ := ry
 exact rule i j t t' s _ _ ⟨.int (g i j), H, I.tok _, ⟨_, rfl⟩, q⟩
theorem opB0 {f : Value → Value → Sem Value} {g : Int → Int → Bool}
  (rule : ∀ (i j : Int) (t u : Tok) (s : Shared) (Q : Value → Shared → Prop) (E : Value → Shared → Prop), Q (.bool (g i j)) s → wpAny (model X.prog X.w) X.A (f (.int i t) (.int j u)) Q E s) :
  OpR X f (rI0 fun i j => .bl (g i j)) := by
 intro pins s σ H x y v u Q I rx ry h
 obtain ⟨i, j, rfl, rfl, q⟩ := h
 obtain ⟨t, rfl⟩ := rx
 obtain ⟨t', rfl⟩ := ry
 exact rule i j t t' s _ _ ⟨.bl (g i j), H, I, rfl, q⟩
def CDiv (i j : Int) : Prop := 0 < j ∧ j < 1073741824
def CDivN (i j : Int) : Prop := j ≠ 0 ∧ j.natAbs < 1073741824
def CPow (i j : Int) : Prop := 0 ≤ j ∧ j ≤ 1000000 ∧ i.natAbs < 2 ^ 64
def CMul (i j : Int) : Prop := (-(2 ^ 64) < i ∧ i < 2 ^ 64) ∨ (-(2 ^ 64) < j ∧ j < 2 ^ 64)
theorem CMul.ok {i j : Int} (h : CMul i j) : IntMulOk i j := by
 rcases h with ⟨h1, h2⟩ | ⟨h1, h2⟩
 ·exact .of_left (intBits_le_64 h1 h2)
 ·exact .of_right (intBits_le_64 h1 h2)
theorem zake (k : Nat) : (0 : Int) ≤ 2 ^ k := by
 rw [two_pow_cast]
 exact Int.natCast_nonneg _
theorem zaeq : OpR X (binaryOp .Add) (rI0 fun i j => .int (i + j)) := opI0 fun _ _ _ _ _ _ _ q => add_int q
theorem zaqi : OpR X (binaryOp .Sub) (rI0 fun i j => .int (i - j)) := opI0 fun _ _ _ _ _ _ _ q => sub_int q
theorem zaer : OpR X (binaryOp .Mult) (rI CMul fun i j => .int (i * j)) := opI fun _ _ _ _ _ _ _ hc q => mul_int q hc.ok
theorem zab6 : OpR X (binaryOp .Mod) (rI (fun _ j => 0 < j) fun i j => .int (i % j)) := opI fun i j _ _ _ _ _ hc q => by
 have h1 : (0 : Int) < j := hc
 exact mod_int' (by omega) (by rw [Int.fmod_eq_emod_of_nonneg i (by omega)]; exact q)
theorem zajq : OpR X (binaryOp .LShift) (rI CPow fun i j => .int (i * 2 ^ j.toNat)) := opI fun _ _ _ _ _ _ _ hc q => lshift_int_small hc.1 hc.2.1 hc.2.2 q
theorem zats : OpR X (binaryOp .RShift) (rI (fun _ j => 0 ≤ j) fun i j => .int (i / 2 ^ j.toNat)) := opI fun i j _ _ _ _ _ hc q =>
 rshift_int hc (by rw [Int.fdiv_eq_ediv_of_nonneg i (zake _)]; exact q)
theorem zatt : OpR X (binaryOp .BitAnd) (rI0 fun i j => .int (Builtin.bitAnd i j)) := opI0 fun _ _ _ _ _ _ _ q => and_int q
theorem unI {f : Value → Sem Value} {g : Int → Int}
  (rule : ∀ (i : Int) (t : Tok) (s : Shared) (Q : Value → Shared → Prop) (E : Value → Shared → Prop), Q (.int (g i) s.toks) { s with toks := s.toks + 1 } → wpAny (model X.prog X.w) X.A (f (.int i t)) Q E s) :
  UnR X f (rU fun i => .int (g i)) := by
 intro pins s σ H x v Q I rx h
 obtain ⟨i, rfl, q⟩ := h
 obtain ⟨t, rfl⟩ := rx
 exact rule i t s _ _ ⟨.int (g i), H, I.tok _, ⟨_, rfl⟩, q⟩
theorem zatu : UnR X (unaryOp .USub) (rU fun i => .int (-i)) := unI fun _ _ _ _ _ q => neg_int q
end
def scal : V → V → Bool
 | .non, .non => true | .non, .int _ => true | .int _, .non => true | .non, .bl _ => true | .bl _, .non => true | .non, .str _ => true | .str _, .non => true
 | .int _, .int _ => true | .bl _, .bl _ => true | .str _, .str _ => true | .byt _, .byt _ => true
 | .int _, .str _ => true | .str _, .int _ => true | .bl _, .str _ => true | .str _, .bl _ => true
 | _, _ => false
def rEq : R2 := fun x y H Q => scal x y = true ∧ Q (.bl (decide (x = y))) H
def rNe : R2 := fun x y H Q => scal x y = true ∧ Q (.bl (!decide (x = y))) H
theorem zalg {i j : Int} : decide (V.int i = V.int j) = (i == j) := by
 rw [Bool.eq_iff_iff]
 simp
theorem zaqj {i j : Bool} : decide (V.bl i = V.bl j) = (i == j) := by
 rw [Bool.eq_iff_iff]
 simp
theorem zalh {i j : Str} : decide (V.str i = V.str j) = (i == j) := by
 rw [Bool.eq_iff_iff]
 simp
theorem zali {i j : Array UInt8} : decide (V.byt i = V.byt j) = (i.toList == j.toList) := by
 rw [Bool.eq_iff_iff]
 cases i
 cases j
 simp
section
variable {X : Cx} {a b c : Expr} {ta tb tc : TE} {pos : Pos}
theorem zabb {pins : List (Addr × Obj)} {σ : St} {H : Hp} {s : Shared} {Q : VK} {k k' : Bool} (I : Inv X pins σ H s) (q : Q (.bl k) H) (e : k = k') : EP X pins σ Q (.bool k') s := by
 subst e
 exact ⟨.bl k, H, I, rfl, q⟩
theorem zacs : OpR X (compareOp .Eq) rEq := by
 intro pins s σ H x y v u Q I rx ry h
 obtain ⟨hs, q⟩ := h
 cases x with
 | non =>
  cases rx
  cases y with
  | non => cases ry; exact PySem.EqNone.eq_none_none (zabb I q (by simp))
  | bl j => cases ry; exact PySem.EqNone.eq_none_bool (zabb I q (by simp))
  | int j => obtain ⟨t', rfl⟩ := ry; exact PySem.EqNone.eq_none_int (zabb I q (by simp))
  | str j => obtain ⟨t', rfl⟩ := ry; exact PySem.EqNone.eq_none_str (zabb I q (by simp))
  | _ => exact absurd (show false = true from hs) Bool.false_ne_true
 | bl i =>
  cases rx
  cases y with
  | non => cases ry; exact PySem.EqNone.eq_bool_none (zabb I q (by simp))
  | bl j => cases ry; exact eq_bool (zabb I q zaqj)
  | str j => obtain ⟨t', rfl⟩ := ry; exact PySem.EqMixed.eq_bool_str (zabb I q (by simp))
  | _ => exact absurd (show false = true from hs) Bool.false_ne_true
 | int i =>
  obtain ⟨t, rfl⟩ := rx
  cases y with
  | non => cases ry; exact PySem.EqNone.eq_int_none (zabb I q (by simp))
  | int j => obtain ⟨t', rfl⟩ := ry; exact eq_int (zabb I q zalg)
  | str j => obtain ⟨t', rfl⟩ := ry; exact PySem.EqMixed.eq_int_str (zabb I q (by simp))
  | _ => exact absurd (show false = true from hs) Bool.false_ne_true
 | str i =>
  obtain ⟨t, rfl⟩ := rx
  cases y with
  | non => cases ry; exact PySem.EqNone.eq_str_none (zabb I q (by simp))
  | bl j => cases ry; exact PySem.EqMixed.eq_str_bool (zabb I q (by simp))
  | int j => obtain ⟨t', rfl⟩ := ry; exact PySem.EqMixed.eq_str_int (zabb I q (by simp))
  | str j => obtain ⟨t', rfl⟩ := ry; exact eq_str (zabb I q zalh)
  | _ => exact absurd (show false = true from hs) Bool.false_ne_true
 | byt i =>
  obtain ⟨t, rfl⟩ := rx
  cases y with
  | byt j => obtain ⟨t', rfl⟩ := ry; exact PySem.W.eq_bytes (zabb I q zali)
  | _ => exact absurd (show false = true from hs) Bool.false_ne_true
 | _ => cases y <;> exact absurd (show false = true from hs) Bool.false_ne_true
theorem zadr : OpR X (compareOp .NotEq) rNe := by
 intro pins s σ H x y v u Q I rx ry h
 obtain ⟨hs, q⟩ := h
 cases x with
 | non =>
  cases rx
  cases y with
  | non => cases ry; exact PySem.EqNone.ne_none_none (zabb I q (by simp))
  | bl j => cases ry; exact PySem.EqNone.ne_none_bool (zabb I q (by simp))
  | int j => obtain ⟨t', rfl⟩ := ry; exact PySem.EqNone.ne_none_int (zabb I q (by simp))
  | str j => obtain ⟨t', rfl⟩ := ry; exact PySem.EqNone.ne_none_str (zabb I q (by simp))
  | _ => exact absurd (show false = true from hs) Bool.false_ne_true
 | bl i =>
  cases rx
  cases y with
  | non => cases ry; exact PySem.EqNone.ne_bool_none (zabb I q (by simp))
  | bl j => cases ry; exact ne_bool (zabb I q (congrArg not zaqj))
  | str j => obtain ⟨t', rfl⟩ := ry; exact PySem.EqMixed.ne_bool_str (zabb I q (by simp))
  | _ => exact absurd (show false = true from hs) Bool.false_ne_true
 | int i =>
  obtain ⟨t, rfl⟩ := rx
  cases y with
  | non => cases ry; exact PySem.EqNone.ne_int_none (zabb I q (by simp))
  | int j => obtain ⟨t', rfl⟩ := ry; exact ne_int (zabb I q (congrArg not zalg))
  | str j => obtain ⟨t', rfl⟩ := ry; exact PySem.EqMixed.ne_int_str (zabb I q (by simp))
  | _ => exact absurd (show false = true from hs) Bool.false_ne_true
 | str i =>
  obtain ⟨t, rfl⟩ := rx
  cases y with
  | non => cases ry; exact PySem.EqNone.ne_str_none (zabb I q (by simp))
  | bl j => cases ry; exact PySem.EqMixed.ne_str_bool (zabb I q (by simp))
  | int j => obtain ⟨t', rfl⟩ := ry; exact PySem.EqMixed.ne_str_int (zabb I q (by simp))
  | str j => obtain ⟨t', rfl⟩ := ry; exact ne_str (zabb I q (congrArg not zalh))
  | _ => exact absurd (show false = true from hs) Bool.false_ne_true
 | byt i =>
  obtain ⟨t, rfl⟩ := rx
  cases y with
  | byt j => obtain ⟨t', rfl⟩ := ry; exact PySem.W.ne_bytes (zabb I q (congrArg not zali))
  | _ => exact absurd (show false = true from hs) Bool.false_ne_true
 | _ => cases y <;> exact absurd (show false = true from hs) Bool.false_ne_true
theorem zao5 : OpR X (compareOp .Lt) (rI0 fun i j => .bl (decide (i < j))) := opB0 fun _ _ _ _ _ _ _ q => lt_int q
theorem zavc : OpR X (compareOp .LtE) (rI0 fun i j => .bl (decide (i ≤ j))) := opB0 fun _ _ _ _ _ _ _ q => le_int q
theorem zakf : OpR X (compareOp .Gt) (rI0 fun i j => .bl (decide (j < i))) := opB0 fun _ _ _ _ _ _ _ q => gt_int q
theorem zajr : OpR X (compareOp .Is) (fun x y H Q => y = .non ∧ Q (.bl (decide (x = .non))) H) := by
 intro pins s σ H x y v u Q I rx ry h
 obtain ⟨rfl, q⟩ := h
 cases ry
 refine is_none_gen (zabb I q ?_)
 cases x <;> first
  | (cases rx; rfl)
  | (obtain ⟨t, rfl⟩ := rx; rfl)
theorem zaq8 : OpR X (compareOp .IsNot) (fun x y H Q => y = .non ∧ Q (.bl (!decide (x = .non))) H) := by
 intro pins s σ H x y v u Q I rx ry h
 obtain ⟨rfl, q⟩ := h
 cases ry
 refine isnot_none_gen (zabb I q ?_)
 cases x <;> first
  | (cases rx; rfl)
  | (obtain ⟨t, rfl⟩ := rx; rfl)
def isObj : HO → Bool
 | .lst _ => true
 | .ins _ _ _ => true
 | _ => false
theorem nomark (b : Expr) {op : CmpOp} (h : op ≠ .In := by decide) (h2 : op ≠ .NotIn := by decide) : behindInMarks op b = false := by
 have e1 : (op == CmpOp.In) = false := by cases op <;> first | rfl | exact absurd rfl h
 have e2 : (op == CmpOp.NotIn) = false := by cases op <;> first | rfl | exact absurd rfl h2
 cases b <;> simp [behindInMarks, e1, e2]
theorem zaq9 {op : CmpOp} {r : R2} (ho : OpR X (compareOp op) r) (ha : PE X a ta) (hb : PE X b tb) (hm : behindInMarks op b = false) : PE X (.Compare a [op] [b] pos) (tOp r ta tb) := by
 intro pins s σ H Q I h
 exact wpAny_Compare1 (binT ha hb I h fun v u s2 x y H2 I2 rx ry q => ho pins s2 σ H2 x y v u Q I2 rx ry q) hm
def tTest (t : TE) : TT := fun σ H Q => t σ H fun x H' => ∃ k, x = .bl k ∧ Q k H'
theorem zara {op : CmpOp} {r : R2} (ho : OpR X (compareOp op) r) (ha : PE X a ta) (hb : PE X b tb) (hm : behindInMarks op b = false) : PT X (.Compare a [op] [b] pos) (tTest (tOp r ta tb)) := by
 intro pins s σ H Q I h
 refine wpAny_isTrue_Compare1 (thn (ha pins s σ H _ I h) fun v s1 ⟨x, H1, I1, r1, q1⟩ => thn (hb pins s1 σ H1 _ I1 q1) fun u s2 ⟨y, H2, I2, r2, q2⟩ =>
  thn (ho pins s2 σ H2 x y v u _ I2 r1 r2 q2) fun c s3 ⟨z, H3, I3, r3, k, e, q3⟩ => ?_) hm
 subst e
 cases r3
 exact wpAny_truthy_bool ⟨H3, I3, q3⟩
def tChain (r r' : R2) (ta tb tc : TE) : TE := fun σ H Q => ta σ H fun x H1 => tb σ H1 fun y H2 => r x y H2 fun z H3 => ∃ k, z = .bl k ∧
 (if k = true then tc σ H3 fun w' H4 => r' y w' H4 Q else Q (.bl false) H3)
theorem zao6 {op op' : CmpOp} {r r' : R2} (ho : OpR X (compareOp op) r) (ho' : OpR X (compareOp op') r') (ha : PE X a ta) (hb : PE X b tb) (hc : PE X c tc)
  (hm : lastMarks [op, op'] [b, c] = false := by with_unfolding_all rfl) : PE X (.Compare a [op, op'] [b, c] pos) (tChain r r' ta tb tc) := by
 intro pins s σ H Q I h
 refine Compare_chain (thn (ha pins s σ H _ I h) fun v s1 ⟨x, H1, I1, r1, q1⟩ => chain_link (thn (hb pins s1 σ H1 _ I1 q1) fun u s2 ⟨y, H2, I2, r2, q2⟩ =>
  thn (ho pins s2 σ H2 x y v u _ I2 r1 r2 q2) fun d s3 ⟨z, H3, I3, r3, k, e, q3⟩ => ?_)) hm
 subst e
 cases r3
 refine wpAny_truthy_bool ?_
 cases k with
 | false => exact ite_ff ⟨.bl false, H3, I3, rfl, q3⟩
 | true => exact ite_tt (chain_last (thn (hc pins s3 σ H3 _ I3 q3) fun w' s4 ⟨z', H4, I4, r4, q4⟩ => ho' pins s4 σ H4 y z' u w' Q I4 r2 r4 q4))
def TruV (K : PySem.W.Frag) (x : V) (H : Hp) (k : Bool) : Prop :=
 match x with
 | .non => k = false
 | .bl b => k = b
 | .int i => k = (i != 0)
 | .str y => y.length ≤ sizeLine ∧ k = ((y.length : Int) != 0)
 | .byt y => y.size ≤ sizeLine ∧ k = ((y.size : Int) != 0)
 | .ref p => (∃ xs, SqL K H p xs ∧ k = !xs.isEmpty) ∨ (∃ xs, SqT K H p xs ∧ k = !xs.isEmpty) ∨ ∃ kvs, H p = some (.dK kvs) ∧ k = !kvs.isEmpty
 | _ => False
theorem line63 : (sizeLine : Nat) < 2 ^ 63 := by rw [sizeLine_eq]; decide
def PlainIxT (b : Expr) : Prop := ∀ o i, subscripted b false o i = operate [o, i] (getItem o i)
theorem vals1 {x : V} {us : List Value} (r : Vals [x] us) : ∃ u, us = [u] ∧ RelV x u := by
 cases r with
 | cons r1 r2 => cases r2; exact ⟨_, rfl, r1⟩
theorem vals2 {x y : V} {us : List Value} (r : Vals [x, y] us) : ∃ u w', us = [u, w'] ∧ RelV x u ∧ RelV y w' := by
 cases r with
 | cons r1 r2 =>
  cases r2 with
  | cons r3 r4 => cases r4; exact ⟨_, _, rfl, r1, r3⟩
theorem zalj : CallR X (.type "int") (fun xs H Q => (∃ i, xs = [.int i] ∧ Q (.int i) H) ∨ ∃ k, xs = [.bl k] ∧ Q (.int (if k then 1 else 0)) H) := by
 intro pins s σ H xs us Q I r h
 rcases h with ⟨i, rfl, q⟩ | ⟨k, rfl, q⟩
 ·obtain ⟨u, rfl, t, rfl⟩ := vals1 r
  exact call_int_int ⟨.int i, H, I, ⟨_, rfl⟩, q⟩
 ·obtain ⟨u, rfl, r1⟩ := vals1 r
  cases r1
  exact call_int_bool ⟨.int (if k then 1 else 0), H, I.tok _, ⟨_, rfl⟩, q⟩
def LenV (K : PySem.W.Frag) (x : V) (H : Hp) (n : Nat) : Prop :=
 match x with
 | .str y => y.length ≤ sizeLine ∧ n = y.length
 | .byt y => y.size ≤ sizeLine ∧ n = y.size
 | .ref p => (∃ xs, SqL K H p xs ∧ n = xs.length) ∨ ∃ xs, SqT K H p xs ∧ n = xs.length
 | _ => False
end
structure ObjM (h : Heap) (x dx C : Addr) (mA : Str → Option Value) : Prop where
 obj : h.get? x = some (PySem.W.instObj C dx)
 ns : h.Ns1 dx mA
 ne : dx ≠ x
theorem zalk {h : Heap} {dx : Addr} {mA : Str → Option Value} (n : h.Ns1 dx mA) : ∃ od, h.get? dx = some od ∧ ∀ name, PySem.W.lookIn name od = some (mA name) := by
 obtain ⟨o, es, ep, ho, hd, hk, _, hm⟩ := n
 refine ⟨o, ho, fun name => ?_⟩
 have e := hm name
 unfold nsFind findBy at e
 rw [← Array.find?_toList] at e
 unfold PySem.W.lookIn
 rw [hd]
 dsimp only
 split
 ·rename_i y q
  rw [q] at e
  exact congrArg some e
 ·rename_i q
  rw [q] at e
  have a : es.toList.any (·.refKey) = false := by
   rw [List.any_eq_false]
   intro y hy
   obtain ⟨z, t, hkey⟩ := hk y (Array.mem_toList_iff.mp hy)
   simp [DictEntry.refKey, hkey]
  have a' : ¬ es.toList.any (·.refKey) = true := by rw [a]; exact Bool.false_ne_true
  rw [if_neg a']
  exact congrArg some e
theorem ObjM.look {h : Heap} {x dx C : Addr} {mA : Str → Option Value} (I : ObjM h x dx C mA) : ∃ od, PySem.W.InstAt h x (PySem.W.instObj C dx) C (some od) ∧ ∀ name, PySem.W.lookIn name od = some (mA name) :=
 let ⟨od, ho, hl⟩ := zalk I.ns
 ⟨od, ⟨I.obj, rfl, rfl, ho⟩, hl⟩
section
variable {prog : Program} {w : World} {A : Around} {E : Value → Shared → Prop} {s : Shared} {K : PySem.W.Frag} {x dx C f : Addr} {mA : Str → Option Value} {name : Str} {v : Value}
theorem zarb {expr : Bool} {Q : Value → Shared → Prop} (X : K.In s.heap) (I : ObjM s.heap x dx C mA) (hg : PySem.W.plainGet K C name = true) (hh : PySem.W.hasDictIn K C = true)
  (ha : PySem.W.findIn K (.ref C) name = some none) (hv : mA name = some v) (hv' : PySem.W.handedIn v = true) (h : Q v { s with toks := s.toks + 1 }) :
  wpAny (model prog w) A (getAttr (.ref x) name expr) Q E s := by
 obtain ⟨od, J, hl⟩ := I.look
 exact PySem.W.get_value X J (PySem.W.plainGet_of hg).1 (PySem.W.findObj_own hh ha rfl (by rw [hl, hv])) hv' h
theorem zao7 {pl : Sem Bool} {Q : Value × List Value → Shared → Prop} (X : K.In s.heap) (I : ObjM s.heap x dx C mA) (hg : PySem.W.plainGet K C name = true)
  (hf : PySem.W.findIn K (.ref C) name = some (some (.ref f))) (ht : PySem.W.isFn K (.ref f) = true) (hv : mA name = none) (h : Q (.ref f, [.ref x]) s) :
  wpAny (model prog w) A (getMethod (.ref x) name pl) Q E s := by
 obtain ⟨od, J, hl⟩ := I.look
 exact PySem.W.method_fn X J (PySem.W.plainGet_of hg).1 (PySem.W.plainGet_of hg).2 hf (beq_iff_eq.mp ht) (by show (PySem.W.lookIn name od).map (·.isSome) = some false; rw [hl, hv]; rfl) h
theorem zarc {ns : List Str} {Q : Unit → Shared → Prop} (X : K.In s.heap) (I : ObjM s.heap x dx C mA)
  (hs : PySem.W.findIn K (.ref C) "__setattr__" = some (some (.builtin "object.__setattr__"))) (hp : PySem.W.plainOver K C = true) (ht : PySem.W.takerIn K C name = some none) (hh : PySem.W.hasDictIn K C = true)
  (hw : PySem.Within mA ns) (hsz : ns.length ≤ sizeLine)
  (h : ∀ h', ObjM h' x dx C (fun y => if y = name then some v else mA y) → Heap.SameBut dx s.heap h' → Q () { s with heap := h', toks := s.toks + 2 }) :
  wpAny (model prog w) A (setAttr (.ref x) name v) Q E s := by
 obtain ⟨od, J, hl⟩ := I.look
 refine PySem.W.set_plain X J hs (PySem.W.osa_open (s := { s with toks := s.toks + 1 }) (r := none) X J hp ht fun b => ?_)
 obtain ⟨cd, hc, hd'⟩ := PySem.W.any_some hh
 have hx : s.heap.get? x = some ⟨.ref C, some dx, .plain, #[]⟩ := I.obj
 refine wpAny_bind (wpAny_pure (wpAny_bind (wpAny_bind (wpAny_loadPart hx (wpAny_bind (PySem.W.Looks.here (s := { s with toks := s.toks + 1 }) (PySem.W.looks_clsIn X hc) ?_))))))
 rw [hd']
 refine wpAny_pure (a := some dx) (wpAny_bind (wpAny_pure (wpAny_bind ?_)))
 refine wpAny_nsSet1 (s := { s with toks := s.toks + 1 }) I.ns fun h' hn2 hs2 => ?_
 obtain ⟨oD, esD, epD, hoD, hdD, hcD⟩ := hn2.count (PySem.Within.cons name v hw)
 refine wpAny_bind (wpAny_lookBehind hoD (by rw [hdD]; exact pastItsLine_dict (Nat.le_trans hcD (by rw [List.length_cons]; omega))) ?_)
 exact wpAny_pure (h _ ⟨(hs2.2 _ (Ne.symm I.ne)).trans I.obj, hn2, I.ne⟩ hs2)
theorem zajs {R : Result → Shared → Prop} {vs : List Value} {kw : List (Str × Value)} (X : K.In s.heap) (hm : PySem.W.makesIn K C = true)
  (hi : PySem.W.findIn K (.ref C) "__init__" = some (some (.ref f))) (hf : PySem.W.typeIn K (.ref f) = some (.type "function"))
  (h : codeAny (model prog w) (A.under (.builtin "type.__call__" ⟨.ref C :: vs, kw⟩)) (.call (.ref f) ⟨.ref (s.heap.objs.size + 1) :: vs, kw⟩) (PySem.W.InitBack (s.heap.objs.size + 1) R)
   { s with heap := (s.heap.push PySem.W.emptyDict).push (PySem.W.instObj C s.heap.objs.size) }) :
  codeAny (model prog w) A (.call (.ref C) ⟨vs, kw⟩) R s := by
 obtain ⟨hh, g, d, t, os⟩ := s
 exact PySem.W.make_core (PySem.W.makes_of X hm) (PySem.W.looks_findIn X hi) (fun self => PySem.W.bind_fn X self hf) (.inl rfl) h
end
def putF (f : Str) (v : V) : List (Str × V) → List (Str × V)
 | [] => [(f, v)]
 | (g, x) :: r => if g = f then (g, v) :: r else (g, x) :: putF f v r
theorem zae3 (f g : Str) (v : V) : ∀ fs : List (Str × V), (putF f v fs).lookup g = if g = f then some v else fs.lookup g
 | [] => by
  show List.lookup g [(f, v)] = _
  by_cases h : g = f
  ·have hb : (g == f) = true := beq_iff_eq.mpr h
   simp only [List.lookup, hb, if_pos h]
  ·have hb : (g == f) = false := beq_eq_false_iff_ne.mpr h
   simp only [List.lookup, hb, if_neg h]
 | (k, x) :: r => by
  have ih := zae3 f g v r
  rw [show putF f v ((k, x) :: r) = (if k = f then (k, v) :: r else (k, x) :: putF f v r) from rfl]
  by_cases hk : k = f
  ·rw [if_pos hk]
   by_cases h : g = k
   ·have hb : (g == k) = true := beq_iff_eq.mpr h
    simp only [List.lookup, hb, if_pos (h.trans hk)]
   ·have hb : (g == k) = false := beq_eq_false_iff_ne.mpr h
    simp only [List.lookup, hb, if_neg (fun e : g = f => h (e.trans hk.symm))]
  ·rw [if_neg hk]
   by_cases h : g = k
   ·have hb : (g == k) = true := beq_iff_eq.mpr h
    simp only [List.lookup, hb, if_neg (fun e : g = f => hk (h.symm.trans e))]
   ·have hb : (g == k) = false := beq_eq_false_iff_ne.mpr h
    simp only [List.lookup, hb]
    exact ih
theorem zae4 (f : Str) (v : V) : ∀ fs : List (Str × V), f ∈ (putF f v fs).map (·.1) ∧ ∀ g, g ∈ fs.map (·.1) → g ∈ (putF f v fs).map (·.1)
 | [] => ⟨by simp [putF], fun g h => by simp at h⟩
 | (k, x) :: r => by
  obtain ⟨i1, i2⟩ := zae4 f v r
  rw [show putF f v ((k, x) :: r) = (if k = f then (k, v) :: r else (k, x) :: putF f v r) from rfl]
  by_cases hk : k = f
  ·rw [if_pos hk]
   subst hk
   exact ⟨by simp, fun g h => by simpa using h⟩
  ·rw [if_neg hk]
   refine ⟨?_, fun g h => ?_⟩
   ·rw [List.map_cons]
    exact List.mem_cons_of_mem _ i1
   ·rw [List.map_cons] at h ⊢
    rcases List.mem_cons.mp h with e | e
    ·exact List.mem_cons.mpr (.inl e)
    ·exact List.mem_cons_of_mem _ (i2 g e)
theorem zae5 (f : Str) (v : V) : ∀ fs : List (Str × V), (putF f v fs).length ≤ fs.length + 1
 | [] => by simp [putF]
 | (k, x) :: r => by
  have ih := zae5 f v r
  rw [show putF f v ((k, x) :: r) = (if k = f then (k, v) :: r else (k, x) :: putF f v r) from rfl]
  by_cases hk : k = f
  ·rw [if_pos hk, List.length_cons, List.length_cons]; omega
  ·rw [if_neg hk, List.length_cons, List.length_cons]; omega
theorem RelO.some_of {v : V} {o : Option Value} (r : RelO (some v) o) : ∃ u, o = some u ∧ RelV v u := by
 cases o with
 | none => exact (show False from r).elim
 | some u => exact ⟨u, rfl, r⟩
theorem RelO.none_of {o : Option Value} (r : RelO none o) : o = none := by
 cases o with
 | none => rfl
 | some u => exact (show False from r).elim
theorem zall {v : V} {u : Value} (r : RelV v u) : PySem.W.handedIn u = true := by
 cases v with
 | non => cases (show u = Value.none from r); rfl
 | bl b => cases (show u = Value.bool b from r); rfl
 | int i => obtain ⟨t, e⟩ := (show ∃ t, u = Value.int i t from r); cases e; rfl
 | str x => obtain ⟨t, e⟩ := (show ∃ t, u = Value.str x t from r); cases e; rfl
 | byt b => obtain ⟨t, e⟩ := (show ∃ t, u = Value.bytes b t from r); cases e; rfl
 | flt b => obtain ⟨t, e⟩ := (show ∃ t, u = Value.float b t from r); cases e; rfl
 | ref a => cases (show u = Value.ref a from r); rfl
 | ty n => cases (show u = Value.type n from r); rfl
section
variable {P : Program} {w : World} {H H' : Hp} {h h' : Heap} {a C dx : Addr} {fs fs' : List (Str × V)}
theorem zae6 (hok : HOk P w H h) (e : H a = some (.ins C dx fs)) : ∃ mA, ObjM h a dx C mA ∧ (∀ f, RelO (fs.lookup f) (mA f)) ∧ PySem.Within mA (fs.map (·.1)) ∧ fs.length ≤ 1000 ∧ H dx = some (.own a) := by
 obtain ⟨d, z, ne, ob, mA, n, r, q⟩ := (show ObjOk P w H h a (.ins C dx fs) from hok a _ e)
 exact ⟨mA, ⟨ob, n, ne⟩, r, q, z, d⟩
end
structure Cls (K : PySem.W.Frag) (C : Addr) : Prop where
 pg : PySem.W.plainGet K C Str.empty = true
 hd : PySem.W.hasDictIn K C = true
 po : PySem.W.plainOver K C = true
 sa : PySem.W.findIn K (.ref C) "__setattr__" = some (some (.builtin "object.__setattr__"))
theorem Cls.get {K : PySem.W.Frag} {C : Addr} (c : Cls K C) (f : Str) : PySem.W.plainGet K C f = true := c.pg
def NoAttr (K : PySem.W.Frag) (C : Addr) (f : Str) : Prop := PySem.W.findIn K (.ref C) f = some none
theorem NoAttr.taker {K : PySem.W.Frag} {C : Addr} {f : Str} (n : NoAttr K C f) : PySem.W.takerIn K C f = some none := by
 unfold PySem.W.takerIn
 rw [show PySem.W.findIn K (.ref C) f = some none from n]
 rfl
structure Con (K : PySem.W.Frag) (C : Addr) (f : Str) (v : V) (u : Value) : Prop where
 at_ : PySem.W.findIn K (.ref C) f = some (some u)
 rel : RelV v u
 get : PySem.W.specialIn K u "__get__" = some none
 cp : PySem.W.copiedNames.contains f = false
structure Meth (K : PySem.W.Frag) (C : Addr) (m : Str) (f : Addr) : Prop where
 at_ : PySem.W.findIn K (.ref C) m = some (some (.ref f))
 fn : PySem.W.isFn K (.ref f) = true
 kp : PySem.W.keepIn K (.ref f) = true
section
variable {X : Cx} {pins : List (Addr × Obj)} {σ : St} {H : Hp} {s : Shared} {a C dx : Addr} {fs : List (Str × V)} {f : Str} {v : V} {A : Around} {E : Value → Shared → Prop}
theorem zakg {b : Bool} {Q : Value → Shared → Prop} (I : Inv X pins σ H s) (e : H a = some (.ins C dx fs)) (c : Cls X.K C) (n : NoAttr X.K C f) (l : fs.lookup f = some v)
  (h : ∀ u s', Inv X pins σ H s' → RelV v u → Q u s') : wpAny (model X.prog X.w) A (getAttr (.ref a) f b) Q E s := by
 obtain ⟨mA, O, r, _, _, _⟩ := zae6 I.hok e
 obtain ⟨u, hu, ru⟩ := RelO.some_of (v := v) (o := mA f) (by rw [← l]; exact r f)
 exact zarb I.kIn O (c.get f) c.hd n hu (zall ru) (h u _ (I.tok _) ru)
theorem zaf9 {m : Str} {g : Addr} {pl : Sem Bool} {Q : Value × List Value → Shared → Prop} (I : Inv X pins σ H s) (e : H a = some (.ins C dx fs)) (c : Cls X.K C) (k : Meth X.K C m g) (l : fs.lookup m = none)
  (h : Q (.ref g, [.ref a]) s) : wpAny (model X.prog X.w) A (getMethod (.ref a) m pl) Q E s := by
 obtain ⟨mA, O, r, _, _, _⟩ := zae6 I.hok e
 have hn : mA m = none := RelO.none_of (by rw [← l]; exact r m)
 exact zao7 I.kIn O (c.get m) k.at_ k.fn hn h
theorem zakh {y : V} {u : Value} {Q : Unit → Shared → Prop} (I : Inv X pins σ H s) (e : H a = some (.ins C dx fs)) (c : Cls X.K C) (n : NoAttr X.K C f) (hl : fs.length < 1000) (ry : RelV y u)
  (h : ∀ s', Inv X pins σ (upd H a (.ins C dx (putF f y fs))) s' → Q () s') : wpAny (model X.prog X.w) A (setAttr (.ref a) f u) Q E s := by
 obtain ⟨mA, O, r, wi, _, ho⟩ := zae6 I.hok e
 have hz : (fs.map (·.1)).length ≤ sizeLine := by rw [List.length_map, sizeLine_eq]; omega
 refine zarc I.kIn O c.sa c.po n.taker c.hd wi hz fun h' O' sb => h _ ?_
 have hd : ∃ o, h'.get? dx = some o := let ⟨o, _, _, e', _⟩ := O'.ns; ⟨o, e'⟩
 refine I.write (x := a) (e := dx) (by rw [e]; exact True.intro) (.inr ho) (fun b q hb z => (sb.2 b hb).trans z) hd ?_
 refine ⟨by rw [zaaw O.ne]; exact ho, ?_, O.ne, O'.obj, _, O'.ns, fun g => ?_, fun g hg => ?_⟩
 ·have := zae5 f y fs; omega
 ·show RelO ((putF f y fs).lookup g) (if g = f then some u else mA g)
  rw [zae3]
  by_cases q : g = f
  ·rw [if_pos q, if_pos q]; exact ry
  ·rw [if_neg q, if_neg q]; exact r g
 ·by_cases q : g = f
  ·rw [q]; exact (zae4 f y fs).1
  ·refine (zae4 f y fs).2 g (wi g fun z => hg ?_)
   show (if g = f then some u else mA g) = none
   rw [if_neg q]; exact z
theorem Inv.made (I : Inv X pins σ H s) : Inv X pins σ (upd (upd H s.heap.objs.size (.own (s.heap.objs.size + 1))) (s.heap.objs.size + 1) (.ins C s.heap.objs.size []))
  { s with heap := (s.heap.push PySem.W.emptyDict).push (PySem.W.instObj C s.heap.objs.size) } := by
 have e1 : (s.heap.push PySem.W.emptyDict).get? s.heap.objs.size = some PySem.W.emptyDict := Heap.get?_push_size s.heap rfl
 have e2 : ((s.heap.push PySem.W.emptyDict).push (PySem.W.instObj C s.heap.objs.size)).get? (s.heap.objs.size + 1) = some (PySem.W.instObj C s.heap.objs.size) := by
  have := Heap.get?_push_size (s.heap.push PySem.W.emptyDict) (o := PySem.W.instObj C s.heap.objs.size) rfl
  rwa [Heap.size_push] at this
 have e3 : (s.heap.push PySem.W.emptyDict).Ns s.heap.objs.size (fun _ => none) := ⟨PySem.W.emptyDict, #[], _, e1, rfl, (fun e he => absurd he (by simp)), fun _ => rfl⟩
 have I1 := I.laid (a := s.heap.objs.size) (o := .own (s.heap.objs.size + 1)) (h' := s.heap.push PySem.W.emptyDict) (t' := s.toks) (fun b u q => Heap.get?_push_of_some _ q) (Nat.le_refl _) ⟨_, e1⟩
 refine I1.laid (a := s.heap.objs.size + 1) (o := .ins C s.heap.objs.size []) (t' := s.toks) (fun b u q => Heap.get?_push_of_some _ q) (Nat.le_of_eq (Heap.size_push _ _)) ?_
 have ne : s.heap.objs.size ≠ s.heap.objs.size + 1 := Nat.ne_of_lt (Nat.lt_succ_self _)
 refine ⟨by rw [zaaw ne, zaag], Nat.zero_le _, ne, e2, fun _ => none, (Heap.Ns1.of_empty e3).at fun o q => Heap.get?_push_of_some _ q, fun _ => True.intro, fun y hy => absurd rfl hy⟩
theorem zard {prog : Program} {w : World} {env : Env} {e : Expr} {f : Str} {pos : Pos} {s : Shared} {Q : Value → Shared → Prop} (hb : attributeBase e f env (eval e env) = eval e env)
  (h : wpAny (model prog w) A (eval e env) (fun o s₁ => wpAny (model prog w) A (getAttr o f true) Q E s₁) E s) : wpAny (model prog w) A (eval (.Attribute e f pos) env) Q E s :=
 Attribute_any_ h (by rw [arm_eval_Attribute, hb])
end
def tFld (K : PySem.W.Frag) (ta : TE) (f : Str) : TE := fun σ H Q => ta σ H fun x H1 => ∃ a C dx fs v, x = .ref a ∧ H1 a = some (.ins C dx fs) ∧ Cls K C ∧ NoAttr K C f ∧ fs.lookup f = some v ∧ Q v H1
def tCon (K : PySem.W.Frag) (ta : TE) (f : Str) : TE := fun σ H Q => ta σ H fun x H1 => ∃ a C dx fs v u, x = .ref a ∧ H1 a = some (.ins C dx fs) ∧ Cls K C ∧ Con K C f v u ∧ fs.lookup f = none ∧ Q v H1
def sFld (K : PySem.W.Frag) (ta tv : TE) (f : Str) : TS := fun D σ H => tv σ H fun y H1 => ta σ H1 fun x H2 => ∃ a C dx fs, x = .ref a ∧ H2 a = some (.ins C dx fs) ∧ Cls K C ∧ NoAttr K C f ∧ fs.length < 1000 ∧
 D.nx σ (upd H2 a (.ins C dx (putF f y fs)))
def InOp (X : Cx) (op : Operator) (rd : V → V → Hp → VK → Prop) : Prop :=
 ∀ (pins : List (Addr × Obj)) (s : Shared) (σ : St) (H : Hp) (x y : V) (u v : Value) (Q : VK), Inv X pins σ H s → RelV x u → RelV y v → rd x y H Q → wpAny (model X.prog X.w) X.A (inplaceOp op u v) (EP X pins σ Q) X.xe s
def sFldAug (K : PySem.W.Frag) (ta tv : TE) (rd : V → V → Hp → VK → Prop) (f : Str) : TS := fun D σ H => ta σ H fun x H1 => ∃ a C dx fs v, x = .ref a ∧ H1 a = some (.ins C dx fs) ∧ Cls K C ∧ NoAttr K C f ∧ fs.lookup f = some v ∧
 tv σ H1 fun y H2 => rd v y H2 fun z H3 => ∃ dx' fs', H3 a = some (.ins C dx' fs') ∧ fs'.length < 1000 ∧ D.nx σ (upd H3 a (.ins C dx' (putF f z fs')))
section
variable {X : Cx} {o e value : Expr} {f : Str} {pos pos' tpos : Pos} {ta tv : TE}
theorem zaqk (he : PE X e ta) (hb : attributeBase e f X.env (eval e X.env) = eval e X.env) : PE X (.Attribute e f pos) (tFld X.K ta f) := by
 intro pins s σ H Q I h
 refine zard hb (thn (he pins s σ H _ I h) fun u s1 ⟨x, H1, I1, rx, a, C, dx, fs, v, ex, ea, c, n, l, q⟩ => ?_)
 subst ex
 obtain rfl : u = Value.ref a := rx
 exact zakg I1 ea c n l fun u' s2 I2 ru => ⟨v, H1, I2, ru, q⟩
theorem zatv (ha : PE X o ta) (hv : PE X value tv) (hs : swapsWith value (some (.Attribute o f pos')) pos.line X.env = pure false) : PS X (.Assign [.Attribute o f pos'] value pos) (sFld X.K ta tv f) := by
 intro pins s σ H D I h
 refine plainObj_wpAny_Assign_Attribute (thn (hv pins s σ H _ I h) fun u s1 ⟨y, H1, I1, ry, q⟩ => thn (ha pins s1 σ H1 _ I1 q) fun ov s2 ⟨x, H2, I2, rx, a, C, dx, fs, ex, ea, c, n, l, q2⟩ => ?_) hs
 subst ex
 obtain rfl : ov = Value.ref a := rx
 exact zakh I2 ea c n l ry fun s3 I3 => ⟨σ, _, I3, q2⟩
def rAdd : V → V → Hp → VK → Prop := fun x y H Q => ∃ i j, x = .int i ∧ y = .int j ∧ Q (.int (i + j)) H
def rSub : V → V → Hp → VK → Prop := fun x y H Q => ∃ i j, x = .int i ∧ y = .int j ∧ Q (.int (i - j)) H
end
section
variable {X : Cx} {pins : List (Addr × Obj)} {σ : St} {H : Hp} {s : Shared} {A : Around} {E : Value → Shared → Prop} {Q : Value → Shared → Prop} {c : Value} {b : Bool}
inductive TyOf (K : PySem.W.Frag) (H : Hp) : V → Value → Prop where
 | non : TyOf K H .non (.type "NoneType")
 | bl (x : Bool) : TyOf K H (.bl x) (.type "bool")
 | int (i : Int) : TyOf K H (.int i) (.type "int")
 | str (x : Str) : TyOf K H (.str x) (.type "str")
 | flt (x : UInt64) : TyOf K H (.flt x) (.type "float")
 | lst {a : Addr} {xs : List V} (e : H a = some (.lst xs)) : TyOf K H (.ref a) (.type "list")
 | frz {a : Addr} {o : Obj} {xs : List V} (e : H a = some (.frz o (.lst xs))) : TyOf K H (.ref a) (.type "list")
 | tup {a : Addr} {xs : List V} (e : H a = some (.tup xs)) : TyOf K H (.ref a) (.type "tuple")
 | dK {a : Addr} {kvs : List (Key × V)} (e : H a = some (.dK kvs)) : TyOf K H (.ref a) (.type "dict")
 | dT {a : Addr} {kvs : List (List Key × V)} (e : H a = some (.dT kvs)) : TyOf K H (.ref a) (.type "dict")
 | ins {a C dx : Addr} {fs : List (Str × V)} (e : H a = some (.ins C dx fs)) (cl : Cls K C) (ha : PySem.W.findIn K (.ref C) "__class__" = some (some (.builtin "object.__class__")))
   (hn : PySem.W.specialIn K (.builtin "object.__class__") "__get__" = some (some (.builtin "getset_descriptor.__get__"))) (htk : PySem.W.takesIn K (.builtin "object.__class__") = some true)
   (hm : PySem.W.mroIn K C (.type "object") = some true) : TyOf K H (.ref a) (.ref C)
theorem zahq {x : V} {u t : Value} (I : Inv X pins σ H s) (rx : RelV x u) (ty : TyOf X.K H x t) (e : PySem.W.kitOne X.K t c = some b) (h : ∀ tk, Q (.bool b) { s with toks := tk }) :
  wpAny (model X.prog X.w) A (call (.builtin "isinstance") [u, c]) Q E s := by
 cases ty with
 | non => cases (show u = Value.none from rx); exact PySem.W.kia_one PySem.W.kitx_none I.kIn True.intro e (fun z => nomatch z) h
 | bl y => cases (show u = Value.bool y from rx); exact PySem.W.kia_one PySem.W.kitx_bool I.kIn True.intro e (fun z => nomatch z) h
 | int i => obtain ⟨t, q⟩ := (show ∃ t, u = Value.int i t from rx); cases q; exact PySem.W.kia_one PySem.W.kitx_int I.kIn True.intro e (fun z => nomatch z) h
 | str y => obtain ⟨t, q⟩ := (show ∃ t, u = Value.str y t from rx); cases q; exact PySem.W.kia_one PySem.W.kitx_str I.kIn True.intro e (fun z => nomatch z) h
 | flt y => obtain ⟨t, q⟩ := (show ∃ t, u = Value.float y t from rx); cases q; exact PySem.W.kia_one PySem.W.kitx_float I.kIn True.intro e (fun z => nomatch z) h
 | @lst a xs ea =>
  cases (show u = Value.ref a from rx)
  obtain ⟨_, _, n, _, h1⟩ := (show ObjOk X.prog X.w H s.heap a (.lst xs) from I.hok a _ ea)
  exact PySem.W.kia_one PySem.W.kitx_list I.kIn ⟨_, h1, rfl⟩ e (fun z => nomatch z) h
 | @frz a ob xs ea =>
  cases (show u = Value.ref a from rx)
  obtain ⟨_, _, _, n, _, h1⟩ := (show ObjOk X.prog X.w H s.heap a (.frz ob (.lst xs)) from I.hok a _ ea)
  exact PySem.W.kia_one PySem.W.kitx_list I.kIn ⟨_, h1, rfl⟩ e (fun z => nomatch z) h
 | @tup a xs ea =>
  cases (show u = Value.ref a from rx)
  obtain ⟨_, _, _, p⟩ := (show ObjOk X.prog X.w H s.heap a (.tup xs) from I.hok a _ ea)
  obtain ⟨o, h1, h2, _⟩ := p
  exact PySem.W.kia_one PySem.W.kitx_tuple I.kIn ⟨o, h1, h2⟩ e (fun z => nomatch z) h
 | @dK a kvs ea =>
  cases (show u = Value.ref a from rx)
  obtain ⟨_, _, vs, _, p⟩ := (show ObjOk X.prog X.w H s.heap a (.dK kvs) from I.hok a _ ea)
  obtain ⟨o, es, ep, h1, h2, _⟩ := p
  exact PySem.W.kia_one PySem.W.kitx_dict I.kIn ⟨o, h1, h2.1⟩ e (fun z => nomatch z) h
 | @dT a kvs ea =>
  cases (show u = Value.ref a from rx)
  obtain ⟨_, _, xs, _, o, es, ep, h1, h2, _⟩ := (show ObjOk X.prog X.w H s.heap a (.dT kvs) from I.hok a _ ea)
  exact PySem.W.kia_one PySem.W.kitx_dict I.kIn ⟨o, h1, h2.1⟩ e (fun z => nomatch z) h
 | @ins a C dx fs ea cl ha hn htk hm =>
  cases (show u = Value.ref a from rx)
  obtain ⟨mA, O, _⟩ := zae6 I.hok ea
  obtain ⟨od, J, _⟩ := O.look
  exact PySem.W.kia_one (PySem.W.kitx_own (cl.get _) cl.hd ha hn htk hm) I.kIn J e (fun z => nomatch z) h
end
structure Room (k : Nat) (A : Around) : Prop where
 hd : A.handled = none
 dp : A.depth + 3 * k + 5 < recursionLimit
 un : A.units + 16 * k + 200 < cLine
theorem Room.mono {j k : Nat} {A : Around} (r : Room k A) (h : j ≤ k) : Room j A := ⟨r.hd, by have := r.dp; omega, by have := r.un; omega⟩
theorem Room.deeper {k : Nat} {A : Around} (r : Room (k + 1) A) (env : Env) : Room k (A.deeper env) :=
 ⟨r.hd, by have := r.dp; show A.depth + 1 + 3 * k + 5 < _; omega, by have := r.un; show A.units + 3 + 16 * k + 200 < _; omega⟩
theorem zaki {A : Around} {C : Addr} {us : List Value} {kw : List (Str × Value)} : (A.under (.builtin "type.__call__" ⟨.ref C :: us, kw⟩)).depth = A.depth + 1 := by
 first | rfl | simp [Around.under, Code.weight, Code.isCreation, Code.isGuard, Code.isCaller, Code.frames, Code.isFrame, guardIds]
theorem zakj {A : Around} {C : Addr} {us : List Value} {kw : List (Str × Value)} : (A.under (.builtin "type.__call__" ⟨.ref C :: us, kw⟩)).units = A.units + 1 := by
 first | rfl | simp [Around.under, Code.cUnits, Code.frames, Code.isFrame]
theorem Room.make {k : Nat} {A : Around} (r : Room (k + 1) A) (C : Addr) (us : List Value) (kw : List (Str × Value)) : Room k (A.under (.builtin "type.__call__" ⟨.ref C :: us, kw⟩)) :=
 ⟨r.hd, by have := r.dp; rw [zaki]; omega, by have := r.un; rw [zakj]; omega⟩
theorem Room.depth {k : Nat} {A : Around} (r : Room k A) : A.depth < recursionLimit := by have := r.dp; omega
theorem Room.units {k : Nat} {A : Around} (r : Room k A) : A.units + 64 < cLine := by have := r.un; omega
def tNil : TA := fun _ H Q => Q [] H
def tCons (ta : TE) (tr : TA) : TA := fun σ H Q => ta σ H fun x H1 => tr σ H1 fun xs H2 => Q (x :: xs) H2
section
variable {X : Cx} {e : Expr} {es : List Expr} {te : TE} {t : TA} {pos : Pos}
theorem zatw : PA X [] tNil := fun _ _ _ _ H Q I h => Calls.spliced_nil ⟨[], H, I, .nil, h⟩
theorem zare (ha : PE X e te) (hr : PA X es t) (hs : starEach (e :: es) X.env = (false, eval e X.env) :: starEach es X.env := by rfl) : PA X (e :: es) (tCons te t) := by
 intro pos pins s σ H Q I h
 rw [hs]
 show wpAny _ _ (spliced ((false, eval e X.env) :: backTo pos (starEach es X.env))) _ _ s
 refine Calls.spliced_cons (thn (ha pins s σ H _ I h) fun u s1 ⟨x, H1, I1, r1, q1⟩ => ?_)
 exact thn (hr pos pins s1 σ H1 _ I1 q1) fun us s2 ⟨xs, H2, I2, r2, q2⟩ => ⟨x :: xs, H2, I2, .cons r1 r2, q2⟩
def tTup (t : TA) : TE := fun σ H Q => t σ H fun xs H1 => xs.length ≤ sizeLine ∧ ∀ p, H1 p = none → Q (.ref p) (upd H1 p (.tup xs))
def tLst (t : TA) : TE := fun σ H Q => t σ H fun xs H1 => xs.length ≤ sizeLine ∧ ∀ p, H1 p = none → Q (.ref p) (upd H1 p (.lst xs))
theorem zatx {x1} (h : PA X es t) : PE X (.Tuple es x1 pos) (tTup t) := by
 intro pins s σ H Q I hq
 refine wpAny_Tuple_spliced (thn (h pos pins s σ H _ I hq) fun us s1 ⟨xs, H1, I1, r, z, q⟩ => ⟨by rw [← r.length]; exact z, ?_⟩)
 have hf : H1 s1.heap.objs.size = none := I1.hok.fresh (Nat.le_refl _)
 refine ⟨.ref s1.heap.objs.size, upd H1 s1.heap.objs.size (.tup xs), I1.laid (t' := s1.toks) (fun b u e => Heap.get?_push_of_some _ e) (Nat.le_refl _) ?_, rfl, q _ hf⟩
 exact ⟨z, us, r, ⟨_, Heap.get?_push_size _ rfl, rfl, _, rfl⟩⟩
theorem zaty (h : PA X es t) : PE X (.List es pos) (tLst t) := by
 intro pins s σ H Q I hq
 refine wpAny_List_spliced (thn (h pos pins s σ H _ I hq) fun us s1 ⟨xs, H1, I1, r, z, q⟩ => ⟨by rw [← r.length]; exact z, ?_⟩)
 have hf : H1 s1.heap.objs.size = none := I1.hok.fresh (Nat.le_refl _)
 refine ⟨.ref s1.heap.objs.size, upd H1 s1.heap.objs.size (.lst xs), I1.laid (t' := s1.toks) (fun b u e => Heap.get?_push_of_some _ e) (Nat.le_refl _) ?_, rfl, q _ hf⟩
 exact ⟨z, us, 0, r, Heap.get?_push_size _ rfl⟩
end
abbrev Sp := List V → Hp → VK → XK → Prop
abbrev CXT := List Env → Hp → Shared → XK → Value → Shared → Prop
structure Env0 (P : Program) (w : World) (K : PySem.W.Frag) (mg : Str → Option Value) (base : Heap) (A : Around) (outer : List Env) (s : Shared) (H : Hp) : Prop where
 frames : A.frames = some outer
 mod : Mod K mg base
 bs : ∀ b o, base.get? b = some o → s.heap.get? b = some o ∧ H b = none
 bsz : base.objs.size ≤ s.heap.objs.size
 funs : s.heap.FunFrames base outer
 frf : ∀ b ∈ frs outer, H b = none
 hok : HOk P w H s.heap
 bare : AllBare s.gens
def CE (outer : List Env) (P : Program) (w : World) (H : Hp) (s : Shared) (Q : VK) (u : Value) (s' : Shared) : Prop :=
 ∃ v H', s'.os = s.os ∧ AllBare s'.gens ∧ Un (frs outer) [] H H' s.heap s'.heap ∧ HOk P w H' s'.heap ∧ RelV v u ∧ Q v H'
def CR (CX : CXT) (outer : List Env) (P : Program) (w : World) (H : Hp) (s : Shared) (Q : VK) (E : XK) (r : Result) (s' : Shared) : Prop :=
 match r with
 | .ok (.ret u) => CE outer P w H s Q u s'
 | .ok _ => False
 | .error e => CX outer H s E e s'
structure FnOk (P : Program) (w : World) (K : PySem.W.Frag) (mg : Str → Option Value) (base : Heap) (CX : CXT) (k : Nat) (f : Addr) (fd : FuncData) (ps : List Str) (sp : Sp) : Prop where
 len : ∀ vs H Q E, sp vs H Q E → vs.length = ps.length
 run : ∀ (A : Around) (outer : List Env) (s : Shared) (H : Hp) (args : Args) (us : List Value) (vs : List V) (Q : VK) (E : XK), Room k A → Env0 P w K mg base A outer s H → BindsTo s fd args (ps.zip us) → Vals vs us → sp vs H Q E →
  codeAny (model P w) A (.call (.ref f) args) (CR CX outer P w H s Q E) s
theorem FnOk.mono {P : Program} {w : World} {K : PySem.W.Frag} {mg : Str → Option Value} {base : Heap} {CX : CXT} {j k : Nat} {f : Addr} {fd : FuncData} {ps : List Str} {sp : Sp} (F : FnOk P w K mg base CX j f fd ps sp) (h : j ≤ k) :
  FnOk P w K mg base CX k f fd ps sp := ⟨F.len, fun A outer s H args us vs Q E hr => F.run A outer s H args us vs Q E (hr.mono h)⟩
theorem Env0.make {P : Program} {w : World} {K : PySem.W.Frag} {mg : Str → Option Value} {base : Heap} {A : Around} {outer : List Env} {s : Shared} {H : Hp} (e : Env0 P w K mg base A outer s H) (C : Addr) (us : List Value) (kw : List (Str × Value)) :
  Env0 P w K mg base (A.under (.builtin "type.__call__" ⟨.ref C :: us, kw⟩)) outer s H := ⟨by first | exact e.frames | (simpa [Around.under, Code.envs, Code.isFrame, pushEnvs] using e.frames), e.mod, e.bs, e.bsz, e.funs, e.frf, e.hok, e.bare⟩
section
variable {X : Cx} {pins : List (Addr × Obj)} {σ : St} {H : Hp} {s s' : Shared}
theorem Inv.env0 (I : Inv X pins σ H s) : Env0 X.prog X.w X.K X.mg X.base X.A X.stack s H :=
 ⟨I.ok.frames, I.ok.mod, I.bs, Nat.le_trans I.ok.bsz I.sz, I.stack, I.stkFree, I.hok, I.bare⟩
theorem Inv.after {Q : VK} {u : Value} (I : Inv X pins σ H s) (h : CE X.stack X.prog X.w H s Q u s') : EP X pins σ Q u s' := by
 obtain ⟨v, H', os, bare, un, hok, r, q⟩ := h
 obtain ⟨hh, g, d, t, os'⟩ := s'
 obtain rfl : os' = s.os := os
 exact ⟨v, H', I.call (h' := hh) (g' := g) (d' := d) (t' := t) (ch := []) un hok bare (fun b z => absurd z (by simp)), r, q⟩
end
def tCall (sp : Sp) (dvs : List V) (E : XK) (t : TA) : TE := fun σ H Q => t σ H fun vs H1 => sp (vs ++ dvs) H1 Q E
def tMeth (C : Addr) (m : Str) (sp : Sp) (dvs : List V) (E : XK) (ta : TE) (t : TA) : TE := fun σ H Q => ta σ H fun x H1 => ∃ a dx fs, x = .ref a ∧ H1 a = some (.ins C dx fs) ∧ fs.lookup m = none ∧
 t σ H1 fun vs H2 => sp (x :: (vs ++ dvs)) H2 Q E
def tMake (C : Addr) (sp : Sp) (dvs : List V) (E : XK) (t : TA) : TE := fun σ H Q => t σ H fun vs H1 => ∀ x dx, H1 x = none → H1 dx = none → dx ≠ x →
 sp (.ref x :: (vs ++ dvs)) (upd (upd H1 dx (.own x)) x (.ins C dx [])) (fun v H2 => v = .non ∧ Q (.ref x) H2) E
def Binds (K : PySem.W.Frag) (fd : FuncData) (ps : List Str) (ds : List Value) : Prop :=
 ∀ (s : Shared) (us : List Value), K.In s.heap → (us ++ ds).length = ps.length → BindsTo s fd ⟨us, []⟩ (ps.zip (us ++ ds))
theorem Binds.all {K : PySem.W.Frag} {fd : FuncData} {ps : List Str} (h : ∀ us : List Value, us.length = ps.length → bindArgs fd ⟨us, []⟩ = pure (ps.zip us)) : Binds K fd ps [] := fun s us _ hl => by
 rw [List.append_nil] at hl ⊢
 exact .of_eq (h us hl)
def Passes (CX : CXT) (X : Cx) (E : XK) : Prop := ∀ (pins : List (Addr × Obj)) (σ : St) (H : Hp) (s : Shared) (e : Value) (s' : Shared), Inv X pins σ H s → CX X.stack H s E e s' → X.xe e s'
section
variable {X : Cx} {CX : CXT} {k : Nat} {f C : Addr} {fd : FuncData} {ps : List Str} {sp : Sp} {dvs : List V} {ds : List Value} {E : XK} {x m : Str} {p pos apos : Pos} {e o : Expr} {es : List Expr} {ta : TE} {t : TA}
theorem zajt {pins : List (Addr × Obj)} {σ : St} {H : Hp} {s : Shared} {Q : VK} {us : List Value} {vs : List V} (F : FnOk X.prog X.w X.K X.mg X.base CX k f fd ps sp) (hr : Room k X.A) (hb : Binds X.K fd ps ds) (hd : Vals dvs ds) (hx : Passes CX X E)
  (I : Inv X pins σ H s) (r : Vals vs us) (h : sp (vs ++ dvs) H Q E) : wpAny (model X.prog X.w) X.A (call (.ref f) us) (EP X pins σ Q) X.xe s := by
 have r2 : Vals (vs ++ dvs) (us ++ ds) := r.append hd
 have hl : (us ++ ds).length = ps.length := by rw [← r2.length]; exact F.len _ _ _ _ h
 refine wpAny_call (codeAny_mono (F.run X.A X.stack s H ⟨us, []⟩ (us ++ ds) (vs ++ dvs) Q E hr I.env0 (hb s us I.kIn hl) r2 h) fun r s' hq => ?_)
 cases r with
 | error e => exact hx pins σ H s e s' I hq
 | ok fl =>
  cases fl with
  | ret u => exact I.after hq
  | next => exact False.elim hq
  | brk => exact False.elim hq
  | cont => exact False.elim hq
theorem zarf (F : FnOk X.prog X.w X.K X.mg X.base CX k f fd ps sp) (hr : Room k X.A) (hg : Gl X x) (hm : X.mg x = some (.ref f)) (hk : PySem.W.keepIn X.K (.ref f) = true) (hb : Binds X.K fd ps ds) (hd : Vals dvs ds) (hx : Passes CX X E)
  (ha : PA X (e :: es) t) (hdb : (x == ("__debug__" : Str)) = false := by decide) (he : starEach (e :: es) X.env = (false, eval e X.env) :: starEach es X.env := by rfl) (hpl : (backTo pos (starEach es X.env)).any (·.1) = false := by rfl) :
  PE X (.Call (.Name x p) (e :: es) [] pos) (tCall sp dvs E t) := by
 intro pins s σ H Q I h
 refine wpAny_Call_Name_kw (zaeb I hg hm ?_ hdb)
 refine PySem.W.callWith_K (h₀ := X.base) I.ok.mod.kin hk (thn (ha pos pins s σ H _ I h) fun us s1 ⟨vs, H1, I1, r, q⟩ => ⟨I1.kIn, ?_⟩) he hpl
 exact zajt F hr hb hd hx I1 r q
theorem zarg {pl : Sem Bool} (he : PE X o ta) (c : Cls X.K C) (hm : Meth X.K C m f) (F : FnOk X.prog X.w X.K X.mg X.base CX k f fd ps sp) (hr : Room k X.A) (hb : Binds X.K fd ps ds) (hd : Vals dvs ds) (hx : Passes CX X E) (ha : PA X (e :: es) t)
  (hst : starEach (e :: es) X.env = (false, eval e X.env) :: starEach es X.env := by rfl) (hpl : (backTo pos (starEach es X.env)).any (·.1) = false := by rfl)
  (ht : eval (.Call (.Attribute o m apos) (e :: es) [] pos) X.env = (do
   let ov ← eval o X.env
   standAt apos.atName
   let (f, first) ← holding [ov] (getMethod ov m pl)
   callWith pos f first (backTo pos (starEach (e :: es) X.env)) (backToKw pos (keywordEach [] X.env))) := by rfl) :
  PE X (.Call (.Attribute o m apos) (e :: es) [] pos) (tMeth C m sp dvs E ta t) := by
 intro pins s σ H Q I h
 refine PySem.W.methodCall_KW (pl := pl) (thn (he pins s σ H _ I h) fun u s1 ⟨x, H1, I1, rx, a, dx, fs, ex, ea, l, q⟩ => ?_) ht
 subst ex
 obtain rfl : u = Value.ref a := rx
 refine zaf9 I1 ea c hm l ?_
 refine PySem.W.callWith_K (first := [.ref a]) (h₀ := X.base) I.ok.mod.kin hm.kp (thn (ha pos pins s1 σ H1 _ I1 q) fun us s2 ⟨vs, H2, I2, r, q2⟩ => ⟨I2.kIn, ?_⟩) hst hpl
 exact zajt (us := .ref a :: us) (vs := .ref a :: vs) F hr hb hd hx I2 (.cons rfl r) q2
theorem zao8 {pl : Sem Bool} (he : PE X o ta) (c : Cls X.K C) (hm : Meth X.K C m f) (F : FnOk X.prog X.w X.K X.mg X.base CX k f fd ps sp) (hr : Room k X.A) (hb : Binds X.K fd ps ds) (hd : Vals dvs ds) (hx : Passes CX X E)
  (ht : eval (.Call (.Attribute o m apos) [] [] pos) X.env = (do
   let ov ← eval o X.env
   standAt apos.atName
   let (f, first) ← holding [ov] (getMethod ov m pl)
   callWith pos f first (backTo pos (starEach [] X.env)) (backToKw pos (keywordEach [] X.env))) := by rfl) :
  PE X (.Call (.Attribute o m apos) [] [] pos) (tMeth C m sp dvs E ta tNil) := by
 intro pins s σ H Q I h
 refine PySem.W.methodCall_KW (pl := pl) (thn (he pins s σ H _ I h) fun u s1 ⟨x, H1, I1, rx, a, dx, fs, ex, ea, l, q⟩ => ?_) ht
 subst ex
 obtain rfl : u = Value.ref a := rx
 refine zaf9 I1 ea c hm l ?_
 exact PySem.W.callWith_K0 (first := [.ref a]) I1.kIn hm.kp (zajt (us := [.ref a]) (vs := [.ref a]) F hr hb hd hx I1 (.cons rfl .nil) q)
structure Mk (K : PySem.W.Frag) (C f : Addr) : Prop where
 makes : PySem.W.makesIn K C = true
 init : PySem.W.findIn K (.ref C) "__init__" = some (some (.ref f))
 fn : PySem.W.isFn K (.ref f) = true
 kp : PySem.W.keepIn K (.ref C) = true
theorem zao9 {pins : List (Addr × Obj)} {σ : St} {H : Hp} {s : Shared} {Q : VK} {us : List Value} {vs : List V} (M : Mk X.K C f) (F : FnOk X.prog X.w X.K X.mg X.base CX k f fd ps sp) (hr : Room (k + 1) X.A) (hb : Binds X.K fd ps ds) (hd : Vals dvs ds)
  (hx : Passes CX X E) (I : Inv X pins σ H s) (r : Vals vs us)
  (h : ∀ x dx, H x = none → H dx = none → dx ≠ x → sp (.ref x :: (vs ++ dvs)) (upd (upd H dx (.own x)) x (.ins C dx [])) (fun v H2 => v = .non ∧ Q (.ref x) H2) E) :
  wpAny (model X.prog X.w) X.A (call (.ref C) us) (EP X pins σ Q) X.xe s := by
 have hq := h (s.heap.objs.size + 1) s.heap.objs.size (I.hok.fresh (Nat.le_succ _)) (I.hok.fresh (Nat.le_refl _)) (Nat.ne_of_lt (Nat.lt_succ_self _))
 have I2 := Inv.made (C := C) I
 have r2 : Vals (V.ref (s.heap.objs.size + 1) :: (vs ++ dvs)) (Value.ref (s.heap.objs.size + 1) :: (us ++ ds)) := .cons rfl (r.append hd)
 have hl : (Value.ref (s.heap.objs.size + 1) :: us ++ ds).length = ps.length := by
  have e := r2.length
  rw [F.len _ _ _ _ hq] at e
  exact e.symm
 refine wpAny_call (zajs (f := f) I.kIn M.makes M.init (beq_iff_eq.mp M.fn) (codeAny_mono (F.run _ X.stack _ _ ⟨Value.ref (s.heap.objs.size + 1) :: us, []⟩ (Value.ref (s.heap.objs.size + 1) :: (us ++ ds)) _ _ E (hr.make C us [])
  (I2.env0.make C us []) (hb _ (Value.ref (s.heap.objs.size + 1) :: us) I2.kIn hl) r2 hq) fun r s' hq' => ?_))
 cases r with
 | error e => exact hx pins σ _ _ e s' I2 hq'
 | ok fl =>
  cases fl with
  | ret u =>
   obtain ⟨v, H', I3, rv, ev, q3⟩ := I2.after hq'
   subst ev
   exact ⟨rv, ⟨V.ref (s.heap.objs.size + 1), H', I3, rfl, q3⟩⟩
  | next => exact False.elim hq'
  | brk => exact False.elim hq'
  | cont => exact False.elim hq'
theorem zarh (M : Mk X.K C f) (F : FnOk X.prog X.w X.K X.mg X.base CX k f fd ps sp) (hr : Room (k + 1) X.A) (hg : Gl X x) (hm : X.mg x = some (.ref C)) (hb : Binds X.K fd ps ds) (hd : Vals dvs ds) (hx : Passes CX X E)
  (ha : PA X (e :: es) t) (hdb : (x == ("__debug__" : Str)) = false := by decide) (he : starEach (e :: es) X.env = (false, eval e X.env) :: starEach es X.env := by rfl) (hpl : (backTo pos (starEach es X.env)).any (·.1) = false := by rfl) :
  PE X (.Call (.Name x p) (e :: es) [] pos) (tMake C sp dvs E t) := by
 intro pins s σ H Q I h
 refine wpAny_Call_Name_kw (zaeb I hg hm ?_ hdb)
 refine PySem.W.callWith_K (h₀ := X.base) I.ok.mod.kin M.kp (thn (ha pos pins s σ H _ I h) fun us s1 ⟨vs, H1, I1, r, q⟩ => ⟨I1.kIn, ?_⟩) he hpl
 exact zao9 M F hr hb hd hx I1 r q
end
def PK (X : Cx) (kws : List Keyword) (t : TA) : Prop :=
 ∀ (pos : Pos) (pins : List (Addr × Obj)) (s : Shared) (σ : St) (H : Hp) (Q : List V → Hp → Prop), Inv X pins σ H s → t σ H Q → wpAny (model X.prog X.w) X.A (evalAll ((backToKw pos (keywordEach kws X.env)).map (·.2))) (AP X pins σ Q) X.xe s
section
variable {X : Cx} {CX : CXT} {k : Nat} {f C : Addr} {fd : FuncData} {ps ks : List Str} {sp : Sp} {E : XK} {x m : Str} {p pos apos kpos : Pos} {e o : Expr} {es : List Expr} {kws : List Keyword} {te ta : TE} {t tk : TA} {nm : Option Str}
structure KBinds (K : PySem.W.Frag) (fd : FuncData) (ps ks : List Str) (g : List Value → List Value → List Value) (gV : List V → List V → List V) : Prop where
 to : ∀ (s : Shared) (us ws : List Value), K.In s.heap → (g us ws).length = ps.length → BindsTo s fd ⟨us, ks.zip ws⟩ (ps.zip (g us ws))
 rel : ∀ {vs : List V} {us : List Value} {zs : List V} {ws : List Value}, Vals vs us → Vals zs ws → Vals (gV vs zs) (g us ws)
def tCallK (sp : Sp) (gV : List V → List V → List V) (E : XK) (t tk : TA) : TE := fun σ H Q => t σ H fun vs H1 => tk σ H1 fun zs H2 => sp (gV vs zs) H2 Q E
variable {g : List Value → List Value → List Value} {gV : List V → List V → List V}
end
structure FnScope (N P : List Str) (sc : Scope) : Prop where
 kind : sc.kind = .function
 co : sc.isCoroutine = false
 gen : sc.isGenerator = false
 nd : N.Nodup
 pre : N.take P.length = P
 par : ∀ x ∈ P, sc.names.lookup x = some .local ∨ sc.names.lookup x = some .cell
 nofree : ∀ y ∈ sc.names, y.2 ≠ .free
theorem zahr {kindOf : Str → Option NameKind} {x : Str} : ∀ {binds : List (Str × Value)} {m : Str → Option Value}, (∀ v, (x, v) ∉ binds) → bindL kindOf binds m x = m x
 | [], _, _ => rfl
 | (n, v) :: r, m, h => by
  unfold bindL
  rw [zahr fun w hw => h w (List.mem_cons_of_mem _ hw)]
  split
  ·have : x ≠ n := by rintro rfl; exact h v List.mem_cons_self
   simp [this]
  ·rfl
theorem zahs {kindOf : Str → Option NameKind} {x : Str} : ∀ {binds : List (Str × Value)} {m : Str → Option Value}, (∀ v, (x, v) ∉ binds) → bindC kindOf binds m x = m x
 | [], _, _ => rfl
 | (n, v) :: r, m, h => by
  unfold bindC
  rw [zahs fun w hw => h w (List.mem_cons_of_mem _ hw)]
  split
  ·rfl
  ·have : x ≠ n := by rintro rfl; exact h v List.mem_cons_self
   simp [this]
theorem zaht {kindOf : Str → Option NameKind} {x : Str} {v : Value} : ∀ {P : List Str} {vs : List Value} {i : Nat} {m : Str → Option Value}, P.Nodup → P[i]? = some x → vs[i]? = some v → kindOf x = some .local →
  bindL kindOf (P.zip vs) m x = some v
 | [], _, _, _, _, h, _, _ => by simp at h
 | _ :: _, [], _, _, _, _, h, _ => by simp at h
 | p :: P, w :: vs, 0, m, nd, h1, h2, hk => by
  simp at h1 h2; subst h1; subst h2
  show bindL kindOf ((p, w) :: P.zip vs) m p = _
  unfold bindL
  rw [zahr fun v hv => (List.nodup_cons.mp nd).1 (List.of_mem_zip hv).1, if_pos hk]
  simp
 | p :: P, w :: vs, i + 1, m, nd, h1, h2, hk => by
  show bindL kindOf ((p, w) :: P.zip vs) m x = _
  unfold bindL
  exact zaht (i := i) (List.nodup_cons.mp nd).2 (by simpa using h1) (by simpa using h2) hk
theorem zahu {kindOf : Str → Option NameKind} {x : Str} {v : Value} : ∀ {P : List Str} {vs : List Value} {i : Nat} {m : Str → Option Value}, P.Nodup → P[i]? = some x → vs[i]? = some v → kindOf x ≠ some .local →
  bindC kindOf (P.zip vs) m x = some v
 | [], _, _, _, _, h, _, _ => by simp at h
 | _ :: _, [], _, _, _, _, h, _ => by simp at h
 | p :: P, w :: vs, 0, m, nd, h1, h2, hk => by
  simp at h1 h2; subst h1; subst h2
  show bindC kindOf ((p, w) :: P.zip vs) m p = _
  unfold bindC
  rw [zahs fun v hv => (List.nodup_cons.mp nd).1 (List.of_mem_zip hv).1, if_neg hk]
  simp
 | p :: P, w :: vs, i + 1, m, nd, h1, h2, hk => by
  show bindC kindOf ((p, w) :: P.zip vs) m x = _
  unfold bindC
  exact zahu (i := i) (List.nodup_cons.mp nd).2 (by simpa using h1) (by simpa using h2) hk
def start (N : List Str) (vs : List V) : St := vs.map some ++ List.replicate (N.length - vs.length) none
def cxOf (CX : CXT) (P : Program) (w : World) (K : PySem.W.Frag) (mg : Str → Option Value) (base : Heap) (N : List Str) (qual : Str) (scope : Scope) (f : Addr) (cd : Value) (A : Around) (outer : List Env) (s : Shared) (H : Hp) (E : XK) : Cx where
 prog := P
 w := w
 K := K
 mg := mg
 base := base
 A := A.deeper (envOfC qual scope s.heap.objs.size f cd)
 N := N
 s₀ := s
 H₀ := H
 env := envOfC qual scope s.heap.objs.size f cd
 outer := outer
 stack := envOfC qual scope s.heap.objs.size f cd :: outer
 ex := []
 calm := true
 fn := fun _ => true
 pn := []
 xe := fun e s' => wpAny (model P w) (A.deeper (envOfC qual scope s.heap.objs.size f cd)) (leaving (envOfC qual scope s.heap.objs.size f cd) e) (fun _ s'' => CX outer H s E e s'') (fun e' s'' => CX outer H s E e' s'') s'
theorem zaju {sc : Scope} {n : Nat} {x : Str} (h : sc.names.lookup x = some .cell) : ∃ c, (cellsFrom n sc.names []).lookup x = some c := by
 have q := PySem.W.cellsFrom_some sc.names n [] (.inl h)
 exact Option.isSome_iff_exists.mp q
theorem zalm {CX : CXT} {P : Program} {w : World} {K : PySem.W.Frag} {mg : Str → Option Value} {base : Heap} {N ps : List Str} {qual : Str} {scope : Scope} {f : Addr} {cd : Value} {A : Around} {outer : List Env} {s s1 : Shared} {H : Hp} {E : XK} {us : List Value} {vs : List V}
  (S : FnScope N ps scope) (hd : A.handled = none) (e0 : Env0 P w K mg base A outer s H) (hl : vs.length = ps.length) (r : Vals vs us)
  (x : InCallC s s.heap.objs.size (bindL (envOfC qual scope s.heap.objs.size f cd).kindOf (ps.zip us) fun _ => none) (cellsFrom (s.heap.objs.size + 1) scope.names []) (bindC (envOfC qual scope s.heap.objs.size f cd).kindOf (ps.zip us) fun _ => none) s1) :
  Inv (cxOf CX P w K mg base N qual scope f cd A outer s H E) [] (start N vs) H s1 := by
 have hpl : ps.length ≤ N.length := by have := congrArg List.length S.pre; rw [List.length_take] at this; omega
 obtain ⟨h1, tk, rfl, hk⟩ := x.done
 have noA : ∀ b : Addr, b ∉ (cxOf CX P w K mg base N qual scope f cd A outer s H E).ex := fun b z => absurd (show b ∈ ([] : List Addr) from z) (by simp)
 refine ⟨⟨e0.mod, S.kind, rfl, rfl, Nat.le_refl _, fun y z c h1 h2 => ?_, fun y hy => ?_, fun y c _ h => ?_, fun _ => hd, Around.frames_deeper e0.frames, .inr ⟨rfl, rfl⟩, fun b z => absurd z (noA b), e0.bs, e0.bsz, fun b _ _ => noA b, fun b z => absurd z (noA b), e0.funs, e0.frf⟩,
  rfl, e0.bare, Un.kept hk, ⟨_, x.toInCall.ns, fun i y v h1 h2 h3 => ?_⟩, fun y c h => ⟨_, x.cell y c h⟩, e0.hok.fresh (Nat.le_refl _), fun y c h => ?_, fun p hp => absurd (show p ∈ ([] : List (Addr × Obj)) from hp) (by simp), e0.hok.kept hk, ?_⟩
 ·exact name_of_addr x.apart (PySem.mem_of_lookup h1) (PySem.mem_of_lookup h2)
 ·have hy : scope.names.lookup y = some .cell ∨ scope.names.lookup y = some .free := hy
  rcases hy with hy | hy
  ·exact zaju hy
  ·exact absurd rfl (S.nofree _ (PySem.mem_of_lookup hy))
 ·exact Nat.le_of_lt (x.above y c (PySem.mem_of_lookup h))
 ·have hi : i < vs.length := by
   unfold start at h2
   by_cases hi : i < vs.length
   ·exact hi
   ·rw [List.getElem?_append_right (by simpa using hi)] at h2
    rw [List.getElem?_replicate] at h2
    split at h2 <;> cases h2
  have ha : vs[i]? = some v := by
   unfold start at h2
   rw [List.getElem?_append_left (by simpa using hi), List.getElem?_map] at h2
   cases e : vs[i]? with
   | none => rw [e] at h2; cases h2
   | some a => rw [e] at h2; cases h2; rfl
  obtain ⟨u, hu, rv⟩ := r.get ha
  have hp : ps[i]? = some y := by
   rw [← S.pre, List.getElem?_take_of_lt (by omega)]; exact h1
  have ndP : ps.Nodup := by rw [← S.pre]; exact S.nd.sublist (List.take_sublist _ _)
  refine ⟨u, rv, ?_⟩
  rcases S.par y (List.mem_of_getElem? hp) with k | k
  ·exact .inl ⟨k, zaht ndP hp hu k⟩
  ·obtain ⟨c, e⟩ := zaju (n := s.heap.objs.size + 1) k
   refine .inr ⟨.inl k, c, e, ?_⟩
   have q := x.cell y c e
   rw [zahu ndP hp hu (by show scope.names.lookup y ≠ _; rw [k]; decide)] at q
   exact q
 ·exact e0.hok.fresh (Nat.le_of_lt (x.above y c (PySem.mem_of_lookup h)))
 ·unfold start
  show _ = N.length
  rw [List.length_append, List.length_map, List.length_replicate]
  omega
theorem zatz {CX : CXT} {P : Program} {w : World} {K : PySem.W.Frag} {mg : Str → Option Value} {base : Heap} {k : Nat} {f : Addr} {name qual : Str} {params : Arguments} {body : List Stmt} {scope : Scope} {dV kV doc pm cdv ct oc : Value} {an od : Option Addr}
  {osl : Array (Option Value)} {N ps : List Str} {sp : Sp} (lk : K.lookup f = some ⟨oc, od, .func (PySem.W.fnOf name qual params body scope dV kV doc pm an cdv ct), osl⟩) (hcd : PySem.W.codeIn K cdv qual = true) (S : FnScope N ps scope)
  (len : ∀ vs H Q E, sp vs H Q E → vs.length = ps.length)
  (hbody : ∀ (A : Around) (outer : List Env) (s : Shared) (H : Hp) (vs : List V) (Q : VK) (E : XK), Room k (A.deeper (envOfC qual scope s.heap.objs.size f cdv)) → sp vs H Q E →
   ∃ t, PSs (cxOf CX P w K mg base N qual scope f cdv A outer s H E) body t ∧ t { nx := fun _ H' => Q .non H', rt := Q } (start N vs) H) :
  FnOk P w K mg base CX (k + 1) f (PySem.W.fnOf name qual params body scope dV kV doc pm an cdv ct) ps sp := by
 refine ⟨len, fun A outer s H args us vs Q E hr e0 hb r hsp => ?_⟩
 have hl := len _ _ _ _ hsp
 have KX : K.In s.heap := e0.mod.kin.keeps fun b o e => (e0.bs b o e).1
 have lim : s.heap.NoLimit := e0.mod.nolimit.keeps fun b o e => (e0.bs b o e).1
 have hkind : ∀ y ∈ ps.zip us, scope.names.lookup y.1 = some .local ∨ (scope.names.lookup y.1 = some .cell ∧ ((cellsFrom (s.heap.objs.size + 1) scope.names []).lookup y.1).isSome = true) := fun ⟨n, v⟩ hy => by
  rcases S.par n (List.of_mem_zip hy).1 with q | q
  ·exact .inl q
  ·exact .inr ⟨q, PySem.W.cellsFrom_some _ _ _ (.inl q)⟩
 refine codeAny_call_function hr.depth (KX _ _ lk) rfl S.co S.gen rfl (PySem.W.codeRec_of KX hcd) (hb _ _ _ _ ?_)
 refine wpAny_newFunctionEnv_cells S.kind hkind fun env he s1 x => ?_
 subst he
 refine ⟨lim.keeps x.toInCall.keep, codeAny_func ?_⟩
 obtain ⟨t, ht, hq⟩ := hbody A outer s H vs Q E (hr.deeper _) hsp
 have I : Inv (cxOf CX P w K mg base N qual scope f cdv A outer s H E) [] (start N vs) H s1 := zalm S hr.hd e0 hl r x
 refine wpAny_mono (ht [] s1 (start N vs) H _ I hq) (fun fl s' hs => ?_) fun e s' hs => hs
 have fin : ∀ {σ' : St} {H' : Hp} {v : V} {u : Value}, Inv (cxOf CX P w K mg base N qual scope f cdv A outer s H E) [] σ' H' s' → RelV v u → Q v H' → CE outer P w H s Q u s' :=
  fun {σ' H' v u} J rv q => ⟨v, H', J.os, J.bare, J.base, J.hok, rv, q⟩
 cases fl with
 | ret u =>
  obtain ⟨v, σ', H', J, rv, q⟩ := hs
  exact fin J rv q
 | next =>
  obtain ⟨σ', H', J, q⟩ := hs
  exact fin (v := V.non) (u := Value.none) J rfl q
 | brk =>
  obtain ⟨_, _, _, q⟩ := hs
  exact False.elim q
 | cont =>
  obtain ⟨_, _, _, q⟩ := hs
  exact False.elim q
section
variable {X : Cx} {x : Str} {p pos : Pos} {e : Expr} {es : List Expr} {t : TA} {id T : String} {r : List V → Hp → VK → Prop}
def tCB (r : List V → Hp → VK → Prop) (t : TA) : TE := fun σ H Q => t σ H fun vs H1 => r vs H1 Q
theorem zapa (hc : CallR X (.builtin id) r) (hg : Gl X x) (hm : X.mg x = none) (hv : bootBuiltins x = some (.builtin id)) (ha : PA X (e :: es) t) (hn : x ≠ "__name__" := by decide) (hdb : (x == ("__debug__" : Str)) = false := by decide)
  (he : starEach (e :: es) X.env = (false, eval e X.env) :: starEach es X.env := by rfl) (hpl : (backTo pos (starEach es X.env)).any (·.1) = false := by rfl) : PE X (.Call (.Name x p) (e :: es) [] pos) (tCB r t) := by
 intro pins s σ H Q I h
 refine wpAny_Call_Name_kw (zaf8 I hg hm hv ?_ hn hdb)
 exact PyProof.Rows.callWith_builtin1 (thn (ha pos pins s σ H _ I h) fun us s1 ⟨vs, H1, I1, r1, q1⟩ => hc pins s1 σ H1 vs us Q I1 r1 q1) he hpl
theorem zaln (hc : CallR X (.type T) r) (hg : Gl X x) (hm : X.mg x = none) (hv : bootBuiltins x = some (.type T)) (ha : PA X (e :: es) t) (hn : x ≠ "__name__" := by decide) (hdb : (x == ("__debug__" : Str)) = false := by decide)
  (he : starEach (e :: es) X.env = (false, eval e X.env) :: starEach es X.env := by rfl) (hpl : (backTo pos (starEach es X.env)).any (·.1) = false := by rfl) : PE X (.Call (.Name x p) (e :: es) [] pos) (tCB r t) := by
 intro pins s σ H Q I h
 refine wpAny_Call_Name_kw (zaf8 I hg hm hv ?_ hn hdb)
 exact PyProof.Rows.callWith_type1 (thn (ha pos pins s σ H _ I h) fun us s1 ⟨vs, H1, I1, r1, q1⟩ => hc pins s1 σ H1 vs us Q I1 r1 q1) he hpl
end
end L2
namespace HT
open PySem PyProof.Rows
def lexLt : List Int → List Int → Bool
 | [], [] => false
 | [], _ :: _ => true
 | _ :: _, [] => false
 | x :: xs, y :: ys => if x = y then lexLt xs ys else decide (x < y)
section
open PySem.SeqAt
open PySem.AutoSeq1 (wpAny_loadPart')
open PySem.MeetsSeq PySem.MeetsSeq2 PySem.MeetsSeq3
end
section
variable {prog : Program} {w : World} {A : Around} {E : Value → Shared → Prop} {s : Shared}
def sIx (n d : Nat) : Option Int → Nat
 | none => d
 | some v => if v < 0 then (v + (n : Int)).toNat else min v.toNat n
theorem zat0 (n d : Nat) (hd : d ≤ n) (o : Option Int) : sIx n d o ≤ n := by
 cases o with
 | none => exact hd
 | some v =>
  show (if v < 0 then (v + (n : Int)).toNat else min v.toNat n) ≤ n
  by_cases hv : v < 0
  ·rw [if_pos hv]; omega
  ·rw [if_neg hv]; exact Nat.min_le_right _ _
theorem zalo (v : Int) (n d : Nat) : (if v < 0 then max (v + (n : Int)) 0 else min v (n : Int)) = ((sIx n d (some v) : Nat) : Int) := by
 show (if v < 0 then max (v + (n : Int)) 0 else min v (n : Int)) = (((if v < 0 then (v + (n : Int)).toNat else min v.toNat n) : Nat) : Int)
 by_cases hv : v < 0
 ·simp only [if_pos hv]; omega
 ·simp only [if_neg hv]; omega
theorem zakk (lo hi : Option Int) (n : Nat) : Builtin.Slice.sliceAdjust lo hi 1 (n : Int) = (((sIx n 0 lo : Nat) : Int), ((sIx n n hi : Nat) : Int)) := by
 have h1 : ¬ ((1 : Int) < 0) := by omega
 unfold Builtin.Slice.sliceAdjust
 simp only [h1, if_false]
 refine Prod.ext ?_ ?_
 ·cases lo with
  | none => rfl
  | some v => exact zalo v n 0
 ·cases hi with
  | none => rfl
  | some v => exact zalo v n n
theorem zakl (i j : Nat) : Builtin.Slice.slicePlaces (i : Int) (j : Int) 1 = j - i := by
 unfold Builtin.Slice.slicePlaces
 have h1 : (1 : Int) > 0 := by omega
 simp only [h1, if_true, Int.ediv_one]
 split <;> omega
theorem zaga {v : Value} {o : Option Int} {Q : Option Int → Shared → Prop} (p : IsPart v o) (h : Q o s) : wpAny (model prog w) A (Builtin.Slice.slicePartIndex v) Q E s := by
 cases p with
 | none => exact slicePart_none h
 | int i t => exact slicePart_int h
theorem zaex {sl : Addr} {vl vu : Value} {lo hi : Option Int} {n : Nat} {Q : Int × Int × Nat → Shared → Prop} (hs : s.heap.IsSliceOf sl vl vu .none) (pl : IsPart vl lo) (pu : IsPart vu hi)
  (h : Q (((sIx n 0 lo : Nat) : Int), 1, sIx n n hi - sIx n 0 lo) s) : wpAny (model prog w) A (Builtin.Slice.sliceApplied (.ref sl) (pure (n : Int))) Q E s := by
 obtain ⟨os, hos, hcs, hds⟩ := id hs
 unfold Builtin.Slice.sliceApplied Builtin.Slice.sliceFields
 refine wpAny_bind (wpAny_bind (wpAny_field hos hds (x := vl) rfl (wpAny_bind (wpAny_field hos hds (x := vu) rfl (wpAny_bind (wpAny_field hos hds (x := .none) rfl (wpAny_pure ?_)))))))
 refine wpAny_bind (slicePart_none ?_)
 show wpAny _ _ (if ((1 : Int) == 0) = true then _ else _) _ _ s
 rw [if_neg (by decide)]
 refine wpAny_bind (zaga pl (wpAny_bind (zaga pu (wpAny_bind (wpAny_pure ?_)))))
 show wpAny _ _ (match Builtin.Slice.sliceAdjust lo hi 1 (n : Int) with | (lo, hi) => pure (lo, (1 : Int), Builtin.Slice.slicePlaces lo hi 1)) _ _ s
 rw [zakk lo hi n]
 show wpAny _ _ (pure (((sIx n 0 lo : Nat) : Int), (1 : Int), Builtin.Slice.slicePlaces ((sIx n 0 lo : Nat) : Int) ((sIx n n hi : Nat) : Int) 1)) _ _ s
 rw [zakl]
 exact wpAny_pure h
theorem zapb (xs : Array Value) (i k : Nat) : ((List.range k).filterMap fun (m : Nat) => xs[((i : Int) + (m : Int) * 1).toNat]?).toArray = ((xs.toList.drop i).take k).toArray := by
 have e : (fun (m : Nat) => xs[((i : Int) + (m : Int) * 1).toNat]?) = fun m => xs[i + m]? := by
  funext m
  have : ((i : Int) + (m : Int) * 1).toNat = i + m := by omega
  rw [this]
 rw [e]
 have := pick_run xs i k
 rw [List.filterMap_map] at this
 have e2 : ((fun x => xs[x]?) ∘ fun x => i + x) = fun m => xs[i + m]? := rfl
 rw [e2] at this
 rw [this]
theorem getItem_tuple_cut {t sl : Addr} {items : Array Value} {vl vu : Value} {lo hi : Option Int} {Q : Value → Shared → Prop} (ht : IsTup s.heap t items) (hs : s.heap.IsSliceOf sl vl vu .none) (pl : IsPart vl lo) (pu : IsPart vu hi)
  (hw : ¬ (sIx items.size 0 lo = 0 ∧ sIx items.size items.size hi = items.size))
  (h : Q (.ref s.heap.objs.size) { s with heap := s.heap.push { cls := .type "tuple", data := .seq ((items.toList.drop (sIx items.size 0 lo)).take (sIx items.size items.size hi - sIx items.size 0 lo)).toArray } })
  (hsz : items.size ≤ sizeLine) : wpAny (model prog w) A (getItem (.ref t) (.ref sl)) Q E s := by
 have htake : sizeOk (.seq ((items.toList.drop (sIx items.size 0 lo)).take (sIx items.size items.size hi - sIx items.size 0 lo)).toArray) := by
  show ((items.toList.drop (sIx items.size 0 lo)).take (sIx items.size items.size hi - sIx items.size 0 lo)).toArray.size ≤ sizeLine
  rw [List.size_toArray, List.length_take, List.length_drop, Array.length_toList]
  omega
 have hj : sIx items.size items.size hi ≤ items.size := zat0 _ _ (Nat.le_refl _) hi
 obtain ⟨os, hos, hcs, hds⟩ := id hs
 have hTs : s.TypeIs (.ref sl) "slice" := ⟨os, hos, hcs⟩
 unfold getItem
 try with_reducible refine wpAny_holding ?_
 first | refine wpAny_bind (wpAny_pure ?_) | skip
 refine wpAny_bind (wpAny_sequenceKey ht.typeIs (by decide) ?_)
 refine wpAny_bind (wpAny_callSpecial?_slot (name := Str.ofString "__getitem__") ht.typeIs PyProof.Rows.slot_tuple_getitem
  (wpAny_call_entry PyProof.Rows.slot_tuple_getitem ht.typeIs entry_tuple_getitem ?_ (args_tuple_getitem _ _)))
 show wpAny _ _ (Builtin.Tuple.tupleItemsOf (.ref t) >>= _) _ _ s
 refine wpAny_bind (tupleItemsOf_ ht ?_)
 refine wpAny_bind (wpAny_typeOf hTs ?_)
 rw [if_pos (by decide)]
 refine wpAny_bind (zaex hs pl pu ?_)
 have hno : ¬ ((((sIx items.size 0 lo : Nat) : Int) == 0 && (1 : Int) == 1 && (sIx items.size items.size hi - sIx items.size 0 lo) == items.size) = true) := by
  intro q
  rw [Bool.and_eq_true, Bool.and_eq_true] at q
  have q1 : ((sIx items.size 0 lo : Nat) : Int) = 0 := eq_of_beq q.1.1
  have q2 : sIx items.size items.size hi - sIx items.size 0 lo = items.size := eq_of_beq q.2
  exact hw ⟨by omega, by omega⟩
 show wpAny _ _ (if (((sIx items.size 0 lo : Nat) : Int) == 0 && (1 : Int) == 1 && (sIx items.size items.size hi - sIx items.size 0 lo) == items.size) = true then _ else _) _ _ s
 rw [if_neg hno, zapb]
 first
  | exact wpAny_bind (m := Builtin.Tuple.tupleExact _) (wpAny_newObj_type (wpAny_pure ⟨_, rfl, wpAny_pure h⟩) htake)
  | exact wpAny_bind (m := Builtin.Tuple.tupleExact _) (wpAny_newObj_type (wpAny_bind (wpAny_pure (wpAny_pure ⟨_, rfl, wpAny_pure h⟩))) htake)
  | exact wpAny_bind (wpAny_bind (m := Builtin.Tuple.tupleExact _) (wpAny_newObj_type (wpAny_pure (wpAny_pure ⟨_, rfl, wpAny_pure h⟩)) htake))
  | exact wpAny_bind (wpAny_bind (m := Builtin.Tuple.tupleExact _) (wpAny_newObj_type (wpAny_pure ⟨_, rfl, wpAny_pure h⟩) htake))
end
end HT
namespace L2
open PySem PySem.Spec PyProof.Rows
abbrev TO := St → Hp → (Option Int → Hp → Prop) → Prop
def PO (X : Cx) (e : Option Expr) (t : TO) : Prop :=
 ∀ (pins : List (Addr × Obj)) (s : Shared) (σ : St) (H : Hp) (Q : Option Int → Hp → Prop), Inv X pins σ H s → t σ H Q →
  wpAny (model X.prog X.w) X.A (evalPart e X.env) (fun u s' => ∃ o H', Inv X pins σ H' s' ∧ IsPart u o ∧ Q o H') X.xe s
def tNoPart : TO := fun _ H Q => Q none H
def tPart (t : TE) : TO := fun σ H Q => t σ H fun x H1 => ∃ i, x = .int i ∧ Q (some i) H1
section
variable {X : Cx} {e : Expr} {te : TE} {lo hi : Option Expr} {tl th : TO} {pos p2 : Pos}
theorem zari : PO X none tNoPart := by
 intro pins s σ H Q I h
 rw [evalPart_none]
 exact wpAny_pure ⟨none, H, I, .none, h⟩
theorem zarj (h : PE X e te) : PO X (some e) (tPart te) := by
 intro pins s σ H Q I hw
 rw [evalPart_some]
 refine thn (h pins s σ H _ I hw) fun u s1 ⟨x, H1, I1, r1, q1⟩ => ?_
 obtain ⟨i, rfl, q⟩ := q1
 obtain ⟨t, rfl⟩ := r1
 exact ⟨some i, H1, I1, .int i t, q⟩
def SlR (X : Cx) (r : V → Option Int → Option Int → Hp → VK → Prop) : Prop :=
 ∀ (pins : List (Addr × Obj)) (s : Shared) (σ : St) (H : Hp) (x : V) (v vl vu : Value) (lo hi : Option Int) (sl : Addr) (Q : VK), Inv X pins σ H s → RelV x v → s.heap.IsSliceOf sl vl vu .none → IsPart vl lo → IsPart vu hi → r x lo hi H Q →
  ∃ T id, typeLookup (.type T) "__getitem__" = pure (some (.builtin id)) ∧ s.TypeIs v T ∧ wpAny (model X.prog X.w) X.A (getItem v (.ref sl)) (EP X pins σ Q) X.xe s
def tSl (r : V → Option Int → Option Int → Hp → VK → Prop) (te : TE) (tl th : TO) : TE := fun σ H Q => te σ H fun x H1 => tl σ H1 fun l H2 => th σ H2 fun u H3 => r x l u H3 Q
theorem zapc {r : V → Option Int → Option Int → Hp → VK → Prop} (hr : SlR X r) (he : PE X e te) (hl : PO X lo tl) (hu : PO X hi th) : PE X (.Subscript e (.Slice lo hi none p2) pos) (tSl r te tl th) := by
 intro pins s σ H Q I h
 refine Subscript_ (thn (he pins s σ H _ I h) fun v s1 ⟨x, H1, I1, r1, q1⟩ => ?_)
 refine wpAny_Slice (thn (hl pins s1 σ H1 _ I1 q1) fun vl s2 ⟨l, H2, I2, pl, q2⟩ => thn (hu pins s2 σ H2 _ I2 q2) fun vu s3 ⟨u, H3, I3, pu, q3⟩ => ?_)
 rw [evalPart_none]
 refine wpAny_pure ?_
 have I4 : Inv X pins σ H3 { s3 with heap := s3.heap.push { cls := .type "slice", data := .fields #[vl, vu, .none] } } := I3.kept (t' := s3.toks) fun b ob q => Heap.get?_push_of_some _ q
 obtain ⟨T, id, hT, ht, hg⟩ := hr pins { s3 with heap := s3.heap.push { cls := .type "slice", data := .fields #[vl, vu, .none] } } σ H3 x v vl vu l u s3.heap.objs.size Q I4 r1 (Heap.IsSliceOf.new ..) pl pu q3
 show wpAny (model X.prog X.w) X.A (subscriptTail e (.Slice lo hi none p2) v (.ref s3.heap.objs.size)) (EP X pins σ Q) X.xe { s3 with heap := s3.heap.push { cls := .type "slice", data := .fields #[vl, vu, .none] } }
 exact tail_any (ops := [.ref s3.heap.objs.size, v]) ht hT hg (by with_unfolding_all rfl)
def cutV (xs : List V) (lo hi : Option Int) : List V := (xs.drop (HT.sIx xs.length 0 lo)).take (HT.sIx xs.length xs.length hi - HT.sIx xs.length 0 lo)
theorem zaip (xs : List V) (lo hi : Option Int) : (cutV xs lo hi).length ≤ xs.length := by
 unfold cutV
 rw [List.length_take, List.length_drop]
 omega
def rSlT (K : PySem.W.Frag) : V → Option Int → Option Int → Hp → VK → Prop := fun x lo hi H Q => ∃ a xs, x = .ref a ∧ SqT K H a xs ∧
 ¬ (HT.sIx xs.length 0 lo = 0 ∧ HT.sIx xs.length xs.length hi = xs.length) ∧ ∀ p, H p = none → Q (.ref p) (upd H p (.tup (cutV xs lo hi)))
theorem zat1 : SlR X (rSlT X.K) := by
 intro pins s σ H x v vl vu lo hi sl Q I rx hs pl pu h
 obtain ⟨a, xs, rfl, hx, hw, q⟩ := h
 cases rx
 obtain ⟨its, r, ht, hz⟩ := I.tuple hx
 have hlen : its.toArray.size = xs.length := by rw [List.size_toArray]; exact r.length.symm
 refine ⟨"tuple", _, PyProof.Rows.slot_tuple_getitem.lookup, ht.typeIs, ?_⟩
 refine HT.getItem_tuple_cut ht hs pl pu (by rw [hlen]; exact hw) ?_ (by rw [hlen]; exact hz)
 rw [hlen]
 refine ⟨.ref s.heap.objs.size, _, I.laid (t' := s.toks) (o := .tup (cutV xs lo hi)) (fun b ob q => Heap.get?_push_of_some _ q) (Nat.le_refl _) ?_, rfl, q _ (I.hok.fresh (Nat.le_refl _))⟩
 exact ⟨Nat.le_trans (zaip xs lo hi) hz, _, (r.drop (HT.sIx xs.length 0 lo)).take (HT.sIx xs.length xs.length hi - HT.sIx xs.length 0 lo), IsTup.new _ _⟩
def rLtT (K : PySem.W.Frag) : R2 := fun x y H Q => ∃ a b ns ms, x = .ref a ∧ y = .ref b ∧ SqT K H a (ns.map V.int) ∧ SqT K H b (ms.map V.int) ∧ Q (.bl (HT.lexLt ns ms)) H
def rCatT (K : PySem.W.Frag) : R2 := fun x y H Q => ∃ a b xs ys, x = .ref a ∧ y = .ref b ∧ SqT K H a xs ∧ SqT K H b ys ∧ xs ≠ [] ∧ xs.length + ys.length ≤ sizeLine ∧
 (ys = [] → Q (.ref a) H) ∧ (ys ≠ [] → ∀ p, H p = none → Q (.ref p) (upd H p (.tup (xs ++ ys))))
end
def ixN (n : Nat) (i : Int) : Option Nat := if 0 ≤ i then (if i < n then some i.toNat else none) else if -(n : Int) ≤ i then some (i + n).toNat else none
def atI {α : Type} (xs : List α) (i : Int) : Option α := (ixN xs.length i).bind fun j => xs[j]?
theorem zalp {n : Nat} {i : Int} {j : Nat} (h : ixN n i = some j) : seqIndex? i n = some j ∧ j < n ∧ -(n : Int) ≤ i ∧ i < n := by
 unfold ixN at h
 by_cases h0 : 0 ≤ i
 ·rw [if_pos h0] at h
  by_cases h1 : i < n
  ·rw [if_pos h1] at h
   have e : i.toNat = j := Option.some.inj h
   exact ⟨by rw [seqIndex_of h0 h1, e], by omega, by omega, h1⟩
  ·rw [if_neg h1] at h; cases h
 ·rw [if_neg h0] at h
  by_cases h1 : -(n : Int) ≤ i
  ·rw [if_pos h1] at h
   have e : (i + n).toNat = j := Option.some.inj h
   exact ⟨by rw [seqIndex_neg (by omega) h1, e], by omega, h1, by omega⟩
  ·rw [if_neg h1] at h; cases h
theorem zalq {α : Type} {xs : List α} {i : Int} {v : α} (h : atI xs i = some v) : ∃ j, seqIndex? i xs.length = some j ∧ xs[j]? = some v ∧ j < xs.length ∧ -(xs.length : Int) ≤ i ∧ i < xs.length := by
 unfold atI at h
 cases e : ixN xs.length i with
 | none => rw [e] at h; cases h
 | some j =>
  rw [e] at h
  obtain ⟨h1, h2, h3, h4⟩ := zalp e
  exact ⟨j, h1, h, h2, h3, h4⟩
theorem zaec {α : Type} {xs : List α} {j : Nat} {v : α} (h : xs[j]? = some v) : atI xs (j : Int) = some v := by
 have hj : j < xs.length := (List.getElem?_eq_some_iff.mp h).1
 have e : ixN xs.length (j : Int) = some j := by
  unfold ixN
  rw [if_pos (by omega), if_pos (by omega)]; simp
 unfold atI; rw [e]; exact h
def PlainIx (b : Expr) : Prop := ∀ o i, subscripted b false o i = operate [o, i] (getItem o i)
def IxR (X : Cx) (r : R2) : Prop :=
 ∀ (value slice : Expr) (pins : List (Addr × Obj)) (s : Shared) (σ : St) (H : Hp) (x y : V) (v u : Value) (Q : VK), Inv X pins σ H s → RelV x v → RelV y u → r x y H Q →
  subscripted slice false v u = operate [v, u] (getItem v u) → wpAny (model X.prog X.w) X.A (subscriptTail value slice v u) (EP X pins σ Q) X.xe s
def MtR (X : Cx) (id : String) (r : V → List V → Hp → VK → Prop) : Prop :=
 ∀ (pins : List (Addr × Obj)) (s : Shared) (σ : St) (H : Hp) (x : V) (xs : List V) (v : Value) (us : List Value) (Q : VK), Inv X pins σ H s → RelV x v → Vals xs us → r x xs H Q →
  wpAny (model X.prog X.w) X.A (call (.builtin id) (v :: us)) (EP X pins σ Q) X.xe s
section
variable {X : Cx} {a b : Expr} {ta tb : TE} {pos : Pos}
theorem IxR.or {r r' : R2} (h : IxR X r) (h' : IxR X r') : IxR X (fun x y H Q => r x y H Q ∨ r' x y H Q) := by
 intro value slice pins s σ H x y v u Q I rx ry q hs
 rcases q with q | q
 ·exact h value slice pins s σ H x y v u Q I rx ry q hs
 ·exact h' value slice pins s σ H x y v u Q I rx ry q hs
theorem zavd {r : R2} (hr : IxR X r) (ha : PE X a ta) (hb : PE X b tb) (hs : PlainIx b) : PE X (.Subscript a b pos) (tOp r ta tb) := by
 intro pins s σ H Q I h
 exact Subscript_ (binT ha hb I h fun v u s2 x y H2 I2 rx ry q => hr a b pins s2 σ H2 x y v u Q I2 rx ry q (hs _ _))
def rIxL (K : PySem.W.Frag) : R2 := fun x y H Q => ∃ p xs i v, x = .ref p ∧ y = .int i ∧ SqL K H p xs ∧ atI xs i = some v ∧ Q v H
def rIxT (K : PySem.W.Frag) : R2 := fun x y H Q => ∃ p xs i v, x = .ref p ∧ y = .int i ∧ SqT K H p xs ∧ atI xs i = some v ∧ Q v H
def rIxS : R2 := fun x y H Q => ∃ z i c, x = .str z ∧ y = .int i ∧ z.length ≤ sizeLine ∧ atI z.cps.toList i = some c ∧ Q (.str ⟨#[c]⟩) H
theorem zark : IxR X (rIxL X.K) := by
 intro value slice pins s σ H x y v u Q I rx ry h hs
 obtain ⟨p, xs, i, z, rfl, rfl, hq, he, q⟩ := h
 cases rx
 obtain ⟨t, rfl⟩ := ry
 obtain ⟨its, r, pl, hz⟩ := I.list hq
 obtain ⟨j, h1, h2, h3, h4, h5⟩ := zalq he
 obtain ⟨w, ew, rw'⟩ := r.get h2
 have hl := r.length
 have hn := line63
 have fin : EP X pins σ Q w s := ⟨z, H, I, rw', q⟩
 by_cases h0 : 0 ≤ i
 ·have hj : i.toNat = j := by
   rw [seqIndex_of h0 h5] at h1
   exact Option.some.inj h1
  exact item_listR pl.isList h0 (by omega) (by rw [hj]; simpa using ew) fin hs
 ·have hj : (i + (its.toArray.size : Int)).toNat = j := by
   rw [seqIndex_neg (by omega) h4] at h1
   rw [List.size_toArray, ← hl]
   exact Option.some.inj h1
  exact subscriptTail_builtinR (x := w) pl.isList.typeIs slot_list_getitem.lookup
   (wpAny_getItem_list_neg (Q := fun r s' => r = w ∧ EP X pins σ Q r s') pl.isList (by omega) (by rw [List.size_toArray] <;> omega) (by omega) (by rw [hj]; simpa using ew) ⟨rfl, fin⟩) hs
theorem zat2 : IxR X (rIxT X.K) := by
 intro value slice pins s σ H x y v u Q I rx ry h hs
 obtain ⟨p, xs, i, z, rfl, rfl, hq, he, q⟩ := h
 cases rx
 obtain ⟨t, rfl⟩ := ry
 obtain ⟨its, r, pl, hz⟩ := I.tuple hq
 obtain ⟨j, h1, h2, h3, h4, h5⟩ := zalq he
 obtain ⟨w, ew, rw'⟩ := r.get h2
 have hl := r.length
 have hn := line63
 have fin : EP X pins σ Q w s := ⟨z, H, I, rw', q⟩
 exact subscriptTail_builtinR (x := w) pl.typeIs slot_tuple_getitem.lookup
  (getItem_tuple (j := j) (Q := fun r s' => r = w ∧ EP X pins σ Q r s') pl (by omega) (by omega) (by rw [List.size_toArray, ← hl]; exact h1) (by simpa using ew) ⟨rfl, fin⟩) hs
def rIx (K : PySem.W.Frag) : R2 := fun x y H Q => rIxL K x y H Q ∨ rIxT K x y H Q ∨ rIxS x y H Q
theorem zakm (its : List Value) (n j : Nat) (u : Value) : Obj.mapSeq (·.setIfInBounds j u) { cls := .type "list", data := .seq its.toArray n } = { cls := .type "list", data := .seq (its.set j u).toArray n } := by
 simp [Obj.mapSeq]
theorem Inv.lst {pins : List (Addr × Obj)} {σ : St} {H : Hp} {s : Shared} {p : Addr} {xs : List V} (I : Inv X pins σ H s) (h : H p = some (.lst xs)) :
  ∃ (its : List Value) (n : Nat), Vals xs its ∧ s.heap.get? p = some { cls := .type "list", data := .seq its.toArray n } ∧ xs.length ≤ sizeLine := by
 obtain ⟨z, its, n, r, e⟩ := I.hok p _ h
 exact ⟨its, n, r, e, z⟩
theorem Inv.lstUpd {pins : List (Addr × Obj)} {σ : St} {H : Hp} {s : Shared} {p : Addr} {xs ys : List V} {its its' : List Value} {n n' : Nat} {f : Obj → Obj} (I : Inv X pins σ H s) (h : H p = some (.lst xs))
  (ho : s.heap.get? p = some { cls := .type "list", data := .seq its.toArray n }) (hf : f { cls := .type "list", data := .seq its.toArray n } = { cls := .type "list", data := .seq its'.toArray n' }) (r : Vals ys its') (hz : ys.length ≤ sizeLine) (t : Nat) :
  Inv X pins σ (upd H p (.lst ys)) { s with heap := s.heap.update p f, toks := t } := by
 have e : (s.heap.update p f).get? p = some { cls := .type "list", data := .seq its'.toArray n' } := by
  rw [Heap.get?_update_self f ho (by rw [hf] <;> rfl), hf]
 refine I.write (x := p) (e := p) (by rw [h]; trivial) (.inl rfl) (fun b u hb q => (Heap.get?_update_other _ _ (Ne.symm hb)).trans q) ⟨_, e⟩ ?_
 exact ⟨hz, its', n', r, e⟩
def rSetL : V → V → V → Hp → (Hp → Prop) → Prop := fun o i v H Q => ∃ p xs k j, o = .ref p ∧ i = .int k ∧ H p = some (.lst xs) ∧ ixN xs.length k = some j ∧ Q (upd H p (.lst (xs.set j v)))
theorem zapd : PSet X rSetL := by
 intro pins s σ H o i v ov iv u Q I ro ri rv h
 obtain ⟨p, xs, k, j, rfl, rfl, hp, hj, q⟩ := h
 cases ro
 obtain ⟨t, rfl⟩ := ri
 obtain ⟨its, n, r, ho, hz⟩ := I.lst hp
 obtain ⟨h1, h2, h3, h4⟩ := zalp hj
 have hl := r.length
 have hn := line63
 have I' : Inv X pins σ (upd H p (.lst (xs.set j v))) { s with heap := s.heap.update p (Obj.mapSeq (·.setIfInBounds j u)) } :=
  I.lstUpd hp ho (zakm its n j u) (r.set rv j) (by rw [List.length_set]; exact hz) s.toks
 by_cases h0 : 0 ≤ k
 ·have hk : k.toNat = j := by
   rw [seqIndex_of h0 h4] at h1
   exact Option.some.inj h1
  exact PySem.W.ki_setAt ho h0 (by omega) (by rw [List.size_toArray, ← hl]; exact h4) (by rw [hk]; exact ⟨_, I', q⟩)
 ·have hk : (k + (its.toArray.size : Int)).toNat = j := by
   rw [seqIndex_neg (by omega) h3] at h1
   rw [List.size_toArray, ← hl]
   exact Option.some.inj h1
  exact PySem.W.ki_setBack ho (by omega) (by rw [List.size_toArray, ← hl]; exact h3) (by omega) (by rw [hk]; exact ⟨_, I', q⟩)
def rSlL (K : PySem.W.Frag) : V → Option Int → Option Int → Hp → VK → Prop := fun x lo hi H Q => ∃ a xs, x = .ref a ∧ SqL K H a xs ∧ ∀ p, H p = none → Q (.ref p) (upd H p (.lst (cutV xs lo hi)))
def flatV : V → Bool
 | .non => true
 | .bl _ => true
 | .int _ => true
 | .str _ => true
 | _ => false
def eqV : V → V → Bool
 | .non, .non => true
 | .bl a, .bl b => a == b
 | .bl a, .int b => (if a then 1 else 0) == b
 | .int a, .bl b => a == (if b then 1 else 0)
 | .int a, .int b => a == b
 | .str a, .str b => a == b
 | _, _ => false
theorem zat3 {A : Around} {s : Shared} {y x : V} {u v : Value} (ry : RelV y u) (rx : RelV x v) (fy : flatV y = true) (fx : flatV x = true) : SeqAt.EqAt A s u v (eqV y x) := by
 cases y with
 | non =>
  cases ry
  cases x with
  | non => cases rx; exact SeqAt.EqAt.same _
  | bl b => cases rx; exact SeqAt.EqAt.none_bool b
  | int b => obtain ⟨t, rfl⟩ := rx; exact SeqAt.EqAt.none_int b t
  | str b => obtain ⟨t, rfl⟩ := rx; exact SeqAt.EqAt.none_str b t
  | _ => exact absurd (show false = true from fx) Bool.false_ne_true
 | bl a =>
  cases ry
  cases x with
  | non => cases rx; exact SeqAt.EqAt.bool_none a
  | bl b => cases rx; exact SeqAt.EqAt.bool_bool a b
  | int b => obtain ⟨t, rfl⟩ := rx; exact SeqAt.EqAt.bool_int a b t
  | str b => obtain ⟨t, rfl⟩ := rx; exact SeqAt.EqAt.bool_str a b t
  | _ => exact absurd (show false = true from fx) Bool.false_ne_true
 | int a =>
  obtain ⟨t', rfl⟩ := ry
  cases x with
  | non => cases rx; exact SeqAt.EqAt.int_none a t'
  | bl b => cases rx; exact SeqAt.EqAt.int_bool a t' b
  | int b => obtain ⟨t, rfl⟩ := rx; exact SeqAt.EqAt.int_int a t' b t
  | str b => obtain ⟨t, rfl⟩ := rx; exact SeqAt.EqAt.int_str a t' b t
  | _ => exact absurd (show false = true from fx) Bool.false_ne_true
 | str a =>
  obtain ⟨t', rfl⟩ := ry
  cases x with
  | non => cases rx; exact SeqAt.EqAt.str_none a t'
  | bl b => cases rx; exact SeqAt.EqAt.str_bool a t' b
  | int b => obtain ⟨t, rfl⟩ := rx; exact SeqAt.EqAt.str_int a t' b t
  | str b => obtain ⟨t, rfl⟩ := rx; exact SeqAt.EqAt.str_str a t' b t
  | _ => exact absurd (show false = true from fx) Bool.false_ne_true
 | _ => exact absurd (show false = true from fy) Bool.false_ne_true
def eqU (x : V) (u : Value) : Bool := match u with
 | .none => eqV .non x
 | .bool b => eqV (.bl b) x
 | .int i _ => eqV (.int i) x
 | .str z _ => eqV (.str z) x
 | _ => false
theorem zaql {x y : V} {u : Value} (r : RelV y u) (f : flatV y = true) : eqU x u = eqV y x := by
 cases y with
 | non => cases r; rfl
 | bl b => cases r; rfl
 | int i => obtain ⟨t, rfl⟩ := r; rfl
 | str z => obtain ⟨t, rfl⟩ := r; rfl
 | _ => exact absurd (show false = true from f) Bool.false_ne_true
theorem zae7 {x : V} : ∀ {xs : List V} {us : List Value}, Vals xs us → xs.all flatV = true → us.any (eqU x) = xs.any fun y => eqV y x
 | _, _, .nil, _ => rfl
 | y :: xs, u :: us, .cons r t, f => by
  rw [List.all_cons, Bool.and_eq_true] at f
  rw [List.any_cons, List.any_cons, zaql r f.1, zae7 t f.2]
theorem zads {A : Around} {s : Shared} {x : V} {v : Value} (rx : RelV x v) (fx : flatV x = true) : ∀ {xs : List V} {us : List Value}, Vals xs us → xs.all flatV = true → ∀ u ∈ us, SeqAt.EqAt A s u v (eqU x u)
 | _, _, .nil, _ => fun u hu => by cases hu
 | y :: xs, u :: us, .cons r t, f => fun u' hu => by
  rw [List.all_cons, Bool.and_eq_true] at f
  rcases List.mem_cons.mp hu with rfl | hu
  ·rw [zaql r f.1]; exact zat3 r rx f.1 fx
  ·exact zads rx fx t f.2 u' hu
def inV (x : V) (xs : List V) : Bool := xs.any fun y => eqV y x
def rIn (K : PySem.W.Frag) (neg : Bool) : R2 := fun x y H Q => ∃ p xs, y = .ref p ∧ (SqL K H p xs ∨ SqT K H p xs) ∧ flatV x = true ∧ xs.all flatV = true ∧ Q (.bl (if neg then !inV x xs else inV x xs)) H
theorem zahv : OpR X (compareOp .In) (rIn X.K false) := by
 intro pins s σ H x y v u Q I rx ry h
 obtain ⟨p, xs, rfl, hq, fx, fs, q⟩ := h
 cases ry
 rcases hq with hq | hq
 ·obtain ⟨its, r, pl, hz⟩ := I.list hq
  refine SeqAt.in_listAt (eqU x) pl.isList (fun w hw => zads rx fx r fs w (by simpa using hw)) ⟨.bl _, H, I, rfl, ?_⟩
  rw [show its.toArray.any (eqU x) = its.any (eqU x) by simp, zae7 r fs]
  exact q
 ·obtain ⟨its, r, pl, hz⟩ := I.tuple hq
  refine SeqAt.in_tupleAt (eqU x) pl (fun w hw => zads rx fx r fs w (by simpa using hw)) ⟨.bl _, H, I, rfl, ?_⟩
  rw [show its.toArray.any (eqU x) = its.any (eqU x) by simp, zae7 r fs]
  exact q
theorem zaes : OpR X (compareOp .NotIn) (rIn X.K true) := by
 intro pins s σ H x y v u Q I rx ry h
 obtain ⟨p, xs, rfl, hq, fx, fs, q⟩ := h
 cases ry
 rcases hq with hq | hq
 ·obtain ⟨its, r, pl, hz⟩ := I.list hq
  refine SeqAt.notIn_listAt (eqU x) pl.isList (fun w hw => zads rx fx r fs w (by simpa using hw)) ⟨.bl _, H, I, rfl, ?_⟩
  rw [show its.toArray.any (eqU x) = its.any (eqU x) by simp, zae7 r fs]
  exact q
 ·obtain ⟨its, r, pl, hz⟩ := I.tuple hq
  refine SeqAt.notIn_tupleAt (eqU x) pl (fun w hw => zads rx fx r fs w (by simpa using hw)) ⟨.bl _, H, I, rfl, ?_⟩
  rw [show its.toArray.any (eqU x) = its.any (eqU x) by simp, zae7 r fs]
  exact q
theorem zaan : CallR X (.builtin "len") (fun xs H Q => ∃ p ys, xs = [.ref p] ∧ (SqL X.K H p ys ∨ SqT X.K H p ys) ∧ Q (.int ys.length) H) := by
 intro pins s σ H xs us Q I r h
 obtain ⟨p, ys, rfl, hq, q⟩ := h
 obtain ⟨u, rfl, rx⟩ := vals1 r
 cases rx
 have hn := line63
 rcases hq with hq | hq
 ·obtain ⟨its, r', pl, hz⟩ := I.list hq
  have hlen := r'.length
  exact Calls.call_len_list pl.isList (by simp only [List.size_toArray] <;> omega) ⟨.int ys.length, H, I.tok _, ⟨s.toks + 1, by rw [List.size_toArray, hlen]⟩, q⟩
 ·obtain ⟨its, r', pl, hz⟩ := I.tuple hq
  have hlen := r'.length
  exact len_tuple pl (by simp only [List.size_toArray] <;> omega) ⟨.int ys.length, H, I.tok _, ⟨s.toks + 1, by rw [List.size_toArray, hlen]⟩, q⟩
theorem zaet : CallR X (.type "list") (fun xs H Q => ∃ p ys, xs = [.ref p] ∧ (SqL X.K H p ys ∨ SqT X.K H p ys) ∧ ∀ l, H l = none → Q (.ref l) (upd H l (.lst ys))) := by
 intro pins s σ H xs us Q I r h
 obtain ⟨p, ys, rfl, hq, q⟩ := h
 obtain ⟨u, rfl, rx⟩ := vals1 r
 cases rx
 have fin : ∀ (its : List Value), Vals ys its → ys.length ≤ sizeLine → ∀ (h' : Heap) (c' : Nat), (∀ b o', s.heap.get? b = some o' → h'.get? b = some o') →
   h'.get? s.heap.objs.size = some { cls := .type "list", dict := none, data := .seq its.toArray c', slots := #[] } → EP X pins σ Q (.ref s.heap.objs.size) { s with heap := h' } := fun its r' hz h' c' kp e =>
  ⟨.ref s.heap.objs.size, _, I.laid (t' := s.toks) kp (Nat.le_refl _) (show ObjOk X.prog X.w _ h' _ (.lst ys) from ⟨hz, its, c', r', e⟩), rfl, q _ (I.hok.fresh (Nat.le_refl _))⟩
 rcases hq with hq | hq
 ·obtain ⟨its, r', pl, hz⟩ := I.list hq
  have hlen := r'.length
  obtain ⟨o, ho, hc, n, hd⟩ := pl.isList
  exact call_list_seq p (.inl rfl) ho hc hd (fun h' c' kp e => fin its r' hz h' c' kp e) (by simp only [List.size_toArray] <;> omega)
 ·obtain ⟨its, r', pl, hz⟩ := I.tuple hq
  have hlen := r'.length
  obtain ⟨o, ho, hc, n, hd⟩ := pl
  exact call_list_seq p (.inr rfl) ho hc hd (fun h' c' kp e => fin its r' hz h' c' kp e) (by simp only [List.size_toArray] <;> omega)
theorem zac3 : CallR X (.type "tuple") (fun xs H Q => ∃ p ys, xs = [.ref p] ∧ ((SqL X.K H p ys ∧ ∀ l, H l = none → Q (.ref l) (upd H l (.tup ys))) ∨ (SqT X.K H p ys ∧ Q (.ref p) H))) := by
 intro pins s σ H xs us Q I r h
 obtain ⟨p, ys, rfl, h⟩ := h
 obtain ⟨u, rfl, rx⟩ := vals1 r
 cases rx
 rcases h with ⟨hq, q⟩ | ⟨hq, q⟩
 ·obtain ⟨its, r', pl, hz⟩ := I.list hq
  have hlen := r'.length
  refine call_tuple_list pl.isList (fun h' kp => ?_) (by simp only [List.size_toArray] <;> omega)
  have I1 : Inv X pins σ H { s with heap := h' } := I.kept (t' := s.toks) kp
  have I2 : Inv X pins σ (upd H h'.objs.size (.tup ys)) { s with heap := h'.push { cls := .type "tuple", data := .seq its.toArray } } :=
   I1.laid (t' := s.toks) (fun b o e => Heap.get?_push_of_some _ e) (Nat.le_refl _) (show ObjOk X.prog X.w _ _ _ (.tup ys) from ⟨hz, its, r', IsTup.new _ _⟩)
  exact ⟨.ref h'.objs.size, _, I2, rfl, q _ (I1.hok.fresh (Nat.le_refl _))⟩
 ·obtain ⟨its, r', pl, hz⟩ := I.tuple hq
  exact call_tuple_same pl ⟨.ref p, H, I, rfl, q⟩
def tyV (K : PySem.W.Frag) (T : String) (x : V) (H : Hp) : Prop := match x with
 | .str _ => T = "str"
 | .int _ => T = "int"
 | .ref p => (T = "list" ∧ ∃ xs, SqL K H p xs) ∨ (T = "tuple" ∧ ∃ o, K.lookup p = some o ∧ o.cls = .type "tuple" ∧ o.dict = none) ∨
   (T = "dict" ∧ ((∃ kvs, H p = some (.dK kvs)) ∨ ∃ kvs, H p = some (.dT kvs))) ∨ (T = "set" ∧ ∃ S n, H p = some (.set S n))
 | _ => False
theorem zaqm {pins : List (Addr × Obj)} {σ : St} {H : Hp} {s : Shared} {T : String} {x : V} {v : Value} (I : Inv X pins σ H s) (r : RelV x v) (ty : tyV X.K T x H) :
  s.TypeIs v T ∧ ∀ a, v = .ref a → ∃ ob, s.heap.get? a = some ob ∧ ob.dict = none := by
 cases x with
 | str z =>
  obtain ⟨t, rfl⟩ := r
  cases (show T = "str" from ty)
  exact ⟨typeIs_str s z t, fun _ e => nomatch e⟩
 | int i =>
  obtain ⟨t, rfl⟩ := r
  cases (show T = "int" from ty)
  exact ⟨typeIs_int s i t, fun _ e => nomatch e⟩
 | ref p =>
  cases r
  rcases ty with ⟨rfl, xs, hq⟩ | ⟨rfl, o, hk, hc, hd⟩ | ⟨rfl, hk⟩ | ⟨rfl, S, n, hk⟩
  ·obtain ⟨its, _, pl, _⟩ := I.list hq
   refine ⟨pl.isList.typeIs, fun a e => ?_⟩
   cases e
   obtain ⟨o, n, e, c, hd, _⟩ := pl
   exact ⟨o, e, hd⟩
  ·refine ⟨⟨o, I.kIn p o hk, hc⟩, fun a e => ?_⟩
   cases e
   exact ⟨o, I.kIn _ o hk, hd⟩
  ·have z : ∃ o, s.heap.get? p = some o ∧ o.ExactDict := by
    rcases hk with ⟨kvs, hk⟩ | ⟨kvs, hk⟩
    ·obtain ⟨_, _, _, _, o, _, _, e, ex, _⟩ := I.hok p _ hk
     exact ⟨o, e, ex⟩
    ·obtain ⟨_, _, _, _, o, _, _, e, ex, _⟩ := I.hok p _ hk
     exact ⟨o, e, ex⟩
   obtain ⟨o, e, ex⟩ := z
   refine ⟨⟨o, e, ex.1⟩, fun a e2 => ?_⟩
   cases e2
   exact ⟨o, e, ex.2.1⟩
  ·obtain ⟨o, _, _, _, e, ex, _⟩ := I.hok p _ hk
   refine ⟨⟨o, e, ex.1⟩, fun a e2 => ?_⟩
   cases e2
   exact ⟨o, e, ex.2.1⟩
 | _ => exact False.elim ty
def tBM0 (K : PySem.W.Frag) (T : String) (r : V → List V → Hp → VK → Prop) (to : TE) : TE := fun σ H Q => to σ H fun x H1 => tyV K T x H1 ∧ r x [] H1 Q
def tBM (K : PySem.W.Frag) (T : String) (r : V → List V → Hp → VK → Prop) (to : TE) (t : TA) : TE := fun σ H Q => to σ H fun x H1 => tyV K T x H1 ∧ t σ H1 fun xs H2 => r x xs H2 Q
variable {o e : Expr} {es : List Expr} {to : TE} {t : TA} {name : Str} {apos cpos : Pos} {T id : String} {r : V → List V → Hp → VK → Prop}
theorem zaqn (pa : PlainAttrs T) (slot : Slot T name id) (hty : typeOf (.builtin id) = pure (.type "method_descriptor")) (hm : MtR X id r) (ho : PE X o to)
  (hbase : attributeBase o name X.env (eval o X.env) = eval o X.env := by rfl) (hline : (apos.endLine == cpos.line) = true := by rfl) : PE X (.Call (.Attribute o name apos) [] [] cpos) (tBM0 X.K T r to) := by
 intro pins s σ H Q I h
 refine wpAny_Call_method0_late hbase hline (thn (ho pins s σ H _ I h) fun v s1 ⟨x, H1, I1, r1, ty, q1⟩ => ?_)
 obtain ⟨h1, h2⟩ := zaqm I1 r1 ty
 exact ⟨T, id, pa, slot, hty, h1, h2, Calls.callWith_builtin rfl (PySem.evalArgs_none (hm pins s1 σ H1 x [] v [] Q I1 r1 .nil q1))⟩
theorem zave (pa : PlainAttrs T) (slot : Slot T name id) (hty : typeOf (.builtin id) = pure (.type "method_descriptor")) (hm : MtR X id r) (ho : PE X o to) (ha : PA X (e :: es) t)
  (hbase : attributeBase o name X.env (eval o X.env) = eval o X.env := by rfl)
  (hfew : ((backTo cpos (starEach (e :: es) X.env)).all (fun x => !x.1) && (backToKw cpos (keywordEach [] X.env)).all (fun x => x.1.isSome)
   && decide ((e :: es).length + ([] : List Keyword).length + (if ([] : List Keyword).isEmpty then 0 else 1) < 30)) = true := by rfl)
  (hline : (apos.endLine == cpos.line) = true := by rfl) (hs : starEach (e :: es) X.env = (false, eval e X.env) :: starEach es X.env := by rfl) (hplain : (backTo cpos (starEach es X.env)).any (·.1) = false := by rfl) :
  PE X (.Call (.Attribute o name apos) (e :: es) [] cpos) (tBM X.K T r to t) := by
 intro pins s σ H Q I h
 refine wpAny_Call_method_late hbase hfew hline rfl (thn (ho pins s σ H _ I h) fun v s1 ⟨x, H1, I1, r1, ty, q1⟩ => ?_)
 obtain ⟨h1, h2⟩ := zaqm I1 r1 ty
 refine ⟨T, id, pa, slot, hty, h1, h2, ?_⟩
 have hA := ha cpos pins s1 σ H1 _ I1 q1
 rw [hs] at hA ⊢
 refine Calls.callWith_builtin (by show (false || (backTo cpos (starEach es X.env)).any (·.1)) = false; rw [hplain] <;> rfl) (Calls.evalArgs_plain ?_)
 exact thn hA fun us s2 ⟨vs, H2, I2, r2, q2⟩ => hm pins s2 σ H2 x vs v us Q I2 r1 r2 q2
end
def MtM (X : Cx) (id : String) (r : V → List V → Hp → VK → Prop) : Prop :=
 ∀ (pins : List (Addr × Obj)) (s : Shared) (σ : St) (H : Hp) (x : V) (xs : List V) (v : Value) (us : List Value) (Q : VK), Inv X pins σ H s → RelV x v → Vals xs us → r x xs H Q →
  wpAny (model X.prog X.w) X.A (call (.builtin id) (v :: us)) (EP X pins σ Q) X.xe s
theorem Vals.one : ∀ {x : V} {us : List Value}, Vals [x] us → ∃ u, us = [u] ∧ RelV x u
 | _, _, .cons r .nil => ⟨_, rfl, r⟩
theorem Vals.zero : ∀ {us : List Value}, Vals [] us → us = []
 | _, .nil => rfl
theorem Vals.dropLast {xs : List V} {us : List Value} (h : Vals xs us) : Vals xs.dropLast us.dropLast := by
 induction h with
 | nil => exact .nil
 | cons r t ih =>
  cases t with
  | nil => exact .nil
  | cons q t' => exact .cons r ih
theorem Vals.rep {xs : List V} {us : List Value} (h : Vals xs us) : ∀ k : Nat, Vals (List.replicate k xs).flatten (List.replicate k us).flatten
 | 0 => .nil
 | k + 1 => by
  rw [List.replicate_succ, List.replicate_succ, List.flatten_cons, List.flatten_cons]
  exact Vals.append h (Vals.rep h k)
theorem zakn {α : Type} (l : List α) : l.eraseIdx (l.length - 1) = l.dropLast := by
 induction l with
 | nil => rfl
 | cons a r ih =>
  cases r with
  | nil => rfl
  | cons b r =>
   have e : (a :: b :: r).length - 1 = ((b :: r).length - 1) + 1 := by
    have h1 : (a :: b :: r).length = r.length + 2 := rfl
    have h2 : (b :: r).length = r.length + 1 := rfl
    omega
   rw [e, List.eraseIdx_cons_succ, ih]
   all_goals rfl
theorem zahw (its : List Value) : ∀ (k : Nat) (acc : List Value),
  List.foldl (fun x1 x2 => x1 ++ x2) acc.toArray (List.replicate k its.toArray) = (acc ++ (List.replicate k its).flatten).toArray
 | 0, acc => by simp
 | k + 1, acc => by
  have e : acc.toArray ++ its.toArray = (acc ++ its).toArray := by simp
  have e2 : (acc ++ its) ++ (List.replicate k its).flatten = acc ++ (List.replicate (k + 1) its).flatten := by
   rw [List.replicate_succ, List.flatten_cons, List.append_assoc]
  rw [← e2, ← zahw its k (acc ++ its), ← e, List.replicate_succ, List.foldl_cons]
section
variable {X : Cx} {pins : List (Addr × Obj)} {σ : St} {H : Hp} {s : Shared} {l b : Addr} {xs ys zs : List V}
theorem Inv.lset {its its' : List Value} {n : Nat} {f : Array Value → Array Value} {t' : Nat} (I : Inv X pins σ H s) (hH : H l = some (.lst xs))
  (e : s.heap.get? l = some { cls := .type "list", data := .seq its.toArray n }) (hf : f its.toArray = its'.toArray) (hv : Vals ys its') (hz : ys.length ≤ sizeLine) :
  Inv X pins σ (upd H l (.lst ys)) { s with heap := s.heap.update l (Obj.mapSeq f), toks := t' } := by
 have q := PySem.IsL.update e f
 rw [hf] at q
 refine I.write (x := l) (e := l) (by rw [hH]; exact trivial) (.inl rfl) (fun b' u hb hu => (Heap.get?_update_other s.heap (Obj.mapSeq f) (Ne.symm hb)).trans hu) ⟨_, q⟩ ?_
 exact ⟨hz, its', _, hv, q⟩
theorem Inv.lnew {its : List Value} {t' : Nat} (I : Inv X pins σ H s) (hv : Vals ys its) (hz : ys.length ≤ sizeLine) :
  Inv X pins σ (upd H s.heap.objs.size (.lst ys)) { s with heap := s.heap.push { cls := .type "list", data := .seq its.toArray }, toks := t' } :=
 I.laid (fun _ _ q => Heap.get?_push_of_some _ q) (Nat.le_refl _) ⟨hz, its, 0, hv, Heap.get?_push_size _ rfl⟩
theorem Inv.fresh (I : Inv X pins σ H s) : H s.heap.objs.size = none := I.hok.fresh (Nat.le_refl _)
theorem Inv.lstM (I : Inv X pins σ H s) (hH : H l = some (.lst xs)) : xs.length ≤ sizeLine ∧ ∃ (its : List Value) (n : Nat), Vals xs its ∧ xs.length = its.length ∧ s.heap.get? l = some { cls := .type "list", data := .seq its.toArray n } := by
 obtain ⟨z, its, n, r, e⟩ := I.hok l _ hH
 exact ⟨z, its, n, r, r.length, e⟩
theorem notLongL {n : Nat} (h : n ≤ sizeLine) : Builtin.List.listTooLong n = false := by
 unfold Builtin.List.listTooLong
 exact decide_eq_false (by omega)
end
section
variable {X : Cx}
def rAppend : V → List V → Hp → VK → Prop := fun x vs H Q => ∃ l xs y, x = .ref l ∧ vs = [y] ∧ H l = some (.lst xs) ∧ xs.length < sizeLine ∧ Q .non (upd H l (.lst (xs ++ [y])))
theorem zacm : MtM X "list.append" rAppend := by
 intro pins s σ H x vs v us Q I rx rv h
 obtain ⟨l, xs, y, rfl, rfl, hH, hz, q⟩ := h
 cases rx
 obtain ⟨u, rfl, ru⟩ := rv.one
 obtain ⟨z, its, n, r, hl, e⟩ := I.lstM hH
 refine call_meets F.slot_list_append ⟨_, e, rfl⟩ F.entry_list_append (F.args_list_append_2 _ _) (PySem.list_append l its.toArray n u (by rw [List.size_toArray]; omega)) ⟨e, ?_⟩
 refine ⟨.non, _, I.lset (its' := its ++ [u]) hH e (by simp) (r.append (.cons ru .nil)) ?_, rfl, q⟩
 rw [List.length_append, List.length_singleton]
 omega
def rExtend : V → List V → Hp → VK → Prop := fun x vs H Q => ∃ l b xs zs, x = .ref l ∧ vs = [.ref b] ∧ H l = some (.lst xs) ∧ H b = some (.lst zs) ∧ xs.length + zs.length ≤ sizeLine ∧ Q .non (upd H l (.lst (xs ++ zs)))
def rPop : V → List V → Hp → VK → Prop := fun x vs H Q => ∃ l xs y, x = .ref l ∧ vs = [] ∧ H l = some (.lst xs) ∧ xs[xs.length - 1]? = some y ∧ Q y (upd H l (.lst xs.dropLast))
theorem zat4 : MtM X "list.pop" rPop := by
 intro pins s σ H x vs v us Q I rx rv h
 obtain ⟨l, xs, y, rfl, rfl, hH, hy, q⟩ := h
 cases rx
 have hus := rv.zero
 subst hus
 obtain ⟨z, its, n, r, hl, e⟩ := I.lstM hH
 obtain ⟨u, hu, ru⟩ := r.get hy
 have hy' : its.toArray[its.toArray.size - 1]? = some u := by
  show its.toArray[its.length - 1]? = some u
  rw [← Array.getElem?_toList, ← hl]
  exact hu
 refine call_meets F.slot_list_pop ⟨_, e, rfl⟩ F.entry_list_pop (F.args_list_pop_1 _) (MeetsSeq.list_pop_last l its.toArray n u hy' (by rw [List.size_toArray]; omega)) ⟨e, ?_⟩
 refine ⟨y, _, I.lset (its' := its.dropLast) hH e ?_ r.dropLast ?_, ru, q⟩
 ·show its.toArray.eraseIdxIfInBounds (its.toArray.size - 1) = its.dropLast.toArray
  rw [List.size_toArray, List.eraseIdxIfInBounds_toArray, zakn]
 ·rw [List.length_dropLast]
  omega
def rPopAt : V → List V → Hp → VK → Prop := fun x vs H Q => ∃ l xs i k y, x = .ref l ∧ vs = [.int i] ∧ H l = some (.lst xs) ∧ -(2 ^ 63) ≤ i ∧ i < 2 ^ 63 ∧ seqIndex? i xs.length = some k ∧ xs[k]? = some y ∧ Q y (upd H l (.lst (xs.eraseIdx k)))
def rReverse : V → List V → Hp → VK → Prop := fun x vs H Q => ∃ l xs, x = .ref l ∧ vs = [] ∧ H l = some (.lst xs) ∧ Q .non (upd H l (.lst xs.reverse))
def rClear : V → List V → Hp → VK → Prop := fun x vs H Q => ∃ l xs, x = .ref l ∧ vs = [] ∧ H l = some (.lst xs) ∧ Q .non (upd H l (.lst []))
def rCat : R2 := fun x y H Q => ∃ l b xs zs, x = .ref l ∧ y = .ref b ∧ H l = some (.lst xs) ∧ H b = some (.lst zs) ∧ xs.length + zs.length ≤ sizeLine ∧ ∀ p, H p = none → Q (.ref p) (upd H p (.lst (xs ++ zs)))
theorem zalr : OpR X (binaryOp .Add) rCat := by
 intro pins s σ H x y v u Q I rx ry h
 obtain ⟨l, b, xs, zs, rfl, rfl, hH, hB, hz, q⟩ := h
 cases rx
 cases ry
 obtain ⟨z, its, n, r, hl, e⟩ := I.lstM hH
 obtain ⟨z2, its2, n2, r2, hl2, e2⟩ := I.lstM hB
 refine PySem.P.add_list e e2 ?_ (by rw [List.size_toArray, List.size_toArray]; omega)
 have ea : its.toArray ++ its2.toArray = (its ++ its2).toArray := by simp
 rw [ea]
 exact ⟨.ref _, _, I.lnew (t' := s.toks) (r.append r2) (by rw [List.length_append]; omega), rfl, q _ I.fresh⟩
def rRep : R2 := fun x y H Q => ∃ l k xs, x = .ref l ∧ y = .int k ∧ H l = some (.lst xs) ∧ -(2 ^ 63) ≤ k ∧ k < 2 ^ 63 ∧ xs.length * k.toNat ≤ sizeLine ∧
 ∀ p, H p = none → Q (.ref p) (upd H p (.lst (List.replicate k.toNat xs).flatten))
theorem zarl {α : Type} (xs : List α) (k : Nat) : (List.replicate k xs).flatten.length = k * xs.length := by
 induction k with
 | zero => simp
 | succ k ih => rw [List.replicate_succ, List.flatten_cons, List.length_append, ih, Nat.succ_mul, Nat.add_comm]
theorem zat5 : OpR X (binaryOp .Mult) rRep := by
 intro pins s σ H x y v u Q I rx ry h
 obtain ⟨l, k, xs, rfl, rfl, hH, h1, h2, hz, q⟩ := h
 cases rx
 obtain ⟨t, rfl⟩ := ry
 obtain ⟨z, its, n, r, hl, e⟩ := I.lstM hH
 have hlen : its.toArray.size * k.toNat ≤ sizeLine := by rw [List.size_toArray, ← hl]; exact hz
 have hcap : ¬ its.toArray.size * k.toNat > (2 ^ 63 - 1) / 8 := by
  have : (sizeLine : Nat) ≤ (2 ^ 63 - 1) / 8 := by decide
  omega
 have hfit : ¬ (!Builtin.List.listFitsIndex k) = true := by
  rw [fitsIndex_both h1 h2]
  exact Bool.false_ne_true
 have hlong : ¬ Builtin.List.listTooLong (its.toArray.size * k.toNat) = true := by
  rw [notLongL hlen]
  exact Bool.false_ne_true
 have hnew : List.foldl (fun x1 x2 => x1 ++ x2) #[] (List.replicate (if its.toArray.isEmpty = true then 0 else k.toNat) its.toArray) = (List.replicate k.toNat its).flatten.toArray := by
  have f0 : ∀ m : Nat, List.foldl (fun x1 x2 => x1 ++ x2) #[] (List.replicate m its.toArray) = (List.replicate m its).flatten.toArray := fun m => by
   have := zahw its m []
   rw [List.nil_append] at this
   exact this
  rw [f0]
  cases its with
  | nil => simp
  | cons a r' => rw [if_neg (by simp)]
 refine wpAny_binaryOp_repeat_ref (T := "list") (U := "int") (by decide) ⟨_, e, rfl⟩ (fun s' => typeIs_int s' k t) noFill_list_mul F.fills_int_mul F.slot_int_rmul repeat_list F.slot_int_index.lookup
  (call_meets F.slot_int_rmul (typeIs_int s k t) F.entry_int_rmul (F.args_int_rmul_2 _ _) (int___rmul___int_list k t l its.toArray n)
   ⟨e, rfl, ⟨_, e, rfl⟩, call_meets F.slot_list_mul ⟨_, e, rfl⟩ F.entry_list_mul (F.args_list_mul_2 _ _) (AutoListH.list___mul___list_int_3 l its.toArray n k t hfit hcap hlong) ⟨e, ?_⟩⟩)
 rw [hnew]
 exact ⟨.ref _, _, I.lnew (t' := s.toks) (r.rep k.toNat) (by rw [zarl, Nat.mul_comm]; exact hz), rfl, q _ I.fresh⟩
end
section
variable {prog : Program} {w : World} {A : Around} {E : Value → Shared → Prop} {s : Shared}
end
section
variable {X : Cx}
end
end L2
namespace Att
open PySem PySem.W PySem.Calls PyProof.Rows
theorem zae8 {P : Params} {h : Heap} : ∀ (ns : List Int) (vs : List Value), WellAll P h vs (ns.map WData.int) → IntsAre vs ns := by
 intro ns
 induction ns with
 | nil =>
  intro vs w
  rw [List.map_nil] at w
  cases w
  exact .nil
 | cons n ns ih =>
  intro vs w
  rw [List.map_cons] at w
  cases w with
  | cons a b =>
   cases a
   exact .cons _ _ (ih _ b)
theorem zals {l : OpenLaw} {n : Nat} (hn : l.most = some n) {P : Params} {h : Heap} {args : List WData} {vals : List Value}
  (hpre : l.row.toRowW.claim.pre args = true) (hwl : WellAll P h vals args) :
  ∃ a vs ns, vals = [Value.ref a] ∧ args = [WData.list (ns.map WData.int)] ∧ h.get? a = some { cls := .type "list", data := .seq vs.toArray } ∧ IntsAre vs ns ∧ ns.length ≤ n := by
 have hsh : WShape.hasAll [] args [.list .int] = true := (pre_splitW hpre).1
 have hc : l.pre.holds [] { args := args } = true := (pre_splitW hpre).2
 obtain ⟨d, r, rfl, h1, h2⟩ := hasAllW_cons hsh
 obtain rfl := hasAllW_nil h2
 obtain ⟨xs, rfl, h3⟩ := hasW_list h1
 obtain ⟨ns, rfl⟩ := items_int h3
 have hlen : ns.length ≤ n := by
  unfold OpenLaw.pre at hc
  have h4 : (WTm.not (.lt (.lit (.int (n : Int))) (.len (.arg 0)))).holds [] { args := [.list (ns.map .int)] } = true := by
   have h4 := (holds_andW hc).1
   rw [hn] at h4
   exact h4
  have h5 := condW_of h4 (w_not (w_lt w_lit (w_len_list (w_arg rfl))))
  rw [List.length_map] at h5
  refine Nat.le_of_not_lt fun q => ?_
  have q' : (n : Int) < ((ns.length : Nat) : Int) := by omega
  first
   | (rw [decide_eq_true q'] at h5; exact absurd h5 (by decide))
   | (simp at h5; omega)
 cases hwl with
 | cons w1 w2 =>
  cases w2
  cases w1 with
  | list ho hall => exact ⟨_, _, ns, rfl, rfl, ho, zae8 ns _ hall, hlen⟩
theorem zalt (l : OpenLaw) (args : List WData) : l.row.toRowW.claim.post args (.bool true) args = true :=
 postW_of (r := l.row.toRowW) (X := (true == true))
  (show WShape.has [] (.bool true) .bool = true by first | rfl | decide | simp [WShape.has, WShape.arms, WShape.armsAll])
  (show (WTm.eq .res (.lit (.bool true))).value [] { args := args, res := some (.bool true), after := args } = some (.bool (true == true)) from w_eq_bool (w_res rfl) w_lit) rfl
theorem attach_call {l : OpenLaw} {n : Nat} {q : Program} {loose : List Str} {XP : (Str → Option Value) → Heap → Prop} {YP : World → Heap → Prop} {d : DefRec}
  (hn : l.most = some n) (hdf : d.params.defaults = [])
  (call : ∀ (w : World) (s₀ s₁ : Shared) (mg mb : Str → Option Value) (fa : Addr) (o : Obj) (pm cd doc : Value) (a : Addr) (vs : List Value) (ns : List Int),
   Ground q loose [] XP w s₀ mg mb s₁.heap → YP w s₁.heap →
   s₁.heap.get? fa = some o → o.data = .func (docDef d.name d.params d.body d.scope pm cd doc) → s₁.heap.CodeRec cd d.name → mg d.name = some (.ref fa) →
   s₁.heap.get? a = some { cls := .type "list", data := .seq vs.toArray } → IntsAre vs ns → ns.length ≤ n → s₁.gens = #[] →
   codeAny (model l.prog w) callerA (.call (.ref fa) ⟨[.ref a], []⟩) (fun r s' => r = .ok (.ret (.bool true)) ∧ OldK s₁.heap s'.heap ∧ s'.os = s₁.os ∧ AllBare s'.gens) s₁) :
  WalkO q loose XP YP l.row.toRowW d [] (fun f vs => PySem.call f vs) := by
 intro w s₀ s₁ mg mb G Y fa o pm cd doc dV kV ho hd hcd hD hmg hg args vals as hpre hlay hrd hwl hlo
 obtain rfl : dV = .none := Dflts.none hD hdf
 obtain rfl : kV = .none := Dflts.noKw hD
 obtain ⟨a, vs, ns, rfl, rfl, hobj, hints, hlen⟩ := zals hn hpre hwl
 refine enter_call (codeAny_mono (call w s₀ s₁ mg mb fa o pm cd doc a vs ns G Y ho (fd_plain hd) hcd hmg hobj hints hlen hg) fun r s' hq => ?_)
 obtain ⟨rfl, h2, h3, h4⟩ := hq
 exact ⟨.inl ⟨.bool true, .bool true, [], rfl, fun _ => rfl, .bool true, zalt l _, fun _ => ⟨List.Pairwise.nil, fun _ hm => (nomatch hm)⟩⟩, h2, h3, h4⟩
section
variable {prog : Program} {w : World} {A : Around} {E : Value → Shared → Prop} {s : Shared} {K : Frag}
def noObjs (h : Heap) : Heap := { h with objs := #[] }
def ledger (h : Heap) (L d : Addr) : List (Addr × Obj) := (List.range h.objs.size).filterMap fun a => if a = L ∨ a = d then none else (h.get? a).map fun o => (a, o)
end
end Att
namespace L2
open PySem PySem.Spec PyProof.Rows
theorem zahx : ∀ {vs : List Value} {ns : List Int}, IntsAre vs ns → Vals (ns.map V.int) vs
 | _, _, .nil => .nil
 | _, _, .cons n t h => .cons ⟨t, rfl⟩ (zahx h)
def Only (H : Hp) : Prop := ∀ b, H b = none ∨ ∃ o xs, H b = some (.frz o (.lst xs))
theorem zape {P : Program} {w : World} {K : PySem.W.Frag} {mg mb : Str → Option Value} {CX : CXT} {k : Nat} {fa a : Addr} {fd : FuncData} {x : Str} {sp : Sp} {s₁ : Shared} {vs : List Value} {ns : List Int}
  (KX : K.In s₁.heap) (hns : s₁.heap.Ns mainGlobals mg) (hb : s₁.heap.Ns builtinsNs mb) (hbb : ∀ x : Str, x ≠ "__name__" → mb x = bootBuiltins x) (hlim : s₁.heap.NoLimit) (hg : s₁.gens = #[])
  (ha : s₁.heap.get? a = some { cls := .type "list", data := .seq vs.toArray }) (hi : IntsAre vs ns) (hl : ns.length ≤ sizeLine) (hr : Room k callerA)
  (F : ∀ base : Heap, K.In base → base.Ns mainGlobals mg → FnOk P w K mg base CX k fa fd [x] sp) (hbind : ∀ (s : Shared) (u : Value), BindsTo s fd ⟨[u], []⟩ [(x, u)])
  (hsp : ∀ H : Hp, Only H → SqL K H a (ns.map V.int) → sp [.ref a] H (fun v _ => v = .bl true) fun _ _ _ => False)
  (hCX : ∀ H e s', CX [] H s₁ (fun _ _ _ => False) e s' → False) :
  codeAny (model P w) callerA (.call (.ref fa) ⟨[.ref a], []⟩) (fun r s' => r = .ok (.ret (.bool true)) ∧ OldK s₁.heap s'.heap ∧ s'.os = s₁.os ∧ AllBare s'.gens) s₁ := by
 have rv := zahx hi
 have lenV := hi.length
 have core : ∀ H : Hp, Only H → SqL K H a (ns.map V.int) → HOk P w H s₁.heap → (∀ b, H b ≠ none → b = a) → (H a ≠ none → K.lookup a = none) →
   codeAny (model P w) callerA (.call (.ref fa) ⟨[.ref a], []⟩) (fun r s' => r = .ok (.ret (.bool true)) ∧ OldK s₁.heap s'.heap ∧ s'.os = s₁.os ∧ AllBare s'.gens) s₁ := by
  intro H hO hS hok hA hK
  have base_of : ∀ {b : Addr} {o : Obj}, s₁.heap.get? b = some o → H b = none → (hidT s₁.heap H).get? b = some o := fun e n => zaoz e n
  have noA : ∀ {b : Addr} {o : Obj} {es : Array DictEntry} {ep : Nat}, s₁.heap.get? b = some o → o.data = .dict es ep → H b = none := fun {b o es ep} e d => by
   cases q : H b with
   | none => rfl
   | some u =>
    have e' : b = a := hA b (by rw [q]; simp)
    subst e'
    rw [ha] at e; cases e
    have d' : Data.seq vs.toArray _ = Data.dict es ep := d
    cases d'
  have nsK : ∀ {b : Addr} {m : Str → Option Value}, s₁.heap.Ns b m → (hidT s₁.heap H).Ns b m := fun {b m} ⟨o, es, ep, e, d, r⟩ => ⟨o, es, ep, base_of e (noA e d), d, r⟩
  have hKb : K.In (hidT s₁.heap H) := fun b o e => base_of (KX b o e) (by
   cases q : H b with
   | none => rfl
   | some u =>
    have e' : b = a := hA b (by rw [q]; simp)
    subst e'
    rw [hK (by rw [q]; simp)] at e; cases e)
  have hM : Mod K mg (hidT s₁.heap H) := ⟨hKb, nsK hns, ⟨mb, nsK hb, hbb⟩, let ⟨mc, h1, h2⟩ := hlim; ⟨mc, nsK h1, h2⟩⟩
  have e0 : Env0 P w K mg (hidT s₁.heap H) callerA [] s₁ H := ⟨rfl, hM, fun b o e => zaq0 e, Nat.le_of_eq (zala _ _), trivial, fun b hb => absurd (show b ∈ ([] : List Addr) from hb) (by simp), hok, .of_eq hg⟩
  refine codeAny_mono ((F _ hKb (nsK hns)).run callerA [] s₁ H ⟨[.ref a], []⟩ [.ref a] [.ref a] _ _ hr e0 (hbind s₁ (.ref a)) (.cons rfl .nil) (hsp H hO hS)) fun r s' h => ?_
  cases r with
  | error e => exact (hCX H e s' h).elim
  | ok fl =>
   cases fl with
   | next => exact False.elim h
   | brk => exact False.elim h
   | cont => exact False.elim h
   | ret u =>
    obtain ⟨v, H', os, bare, un, hok', r', q⟩ := h
    have q' : v = .bl true := q
    subst q'
    obtain rfl : u = Value.bool true := r'
    refine ⟨rfl, OldK.of_keep fun b o e => ?_, os, bare⟩
    cases q : H b with
    | none => exact un.keep b o e q (by intro z; exact absurd (show b ∈ ([] : List Addr) from z) (by simp)) (by simp)
    | some u =>
     rcases hO b with z | ⟨ob, xs, z⟩
     ·rw [q] at z; cases z
     ·have z2 := un.frzs b ob _ z
      obtain ⟨e1, _⟩ := hok b _ z
      obtain ⟨e2, _⟩ := hok' b _ z2
      rw [e] at e1; cases e1
      exact e2
 cases hk : K.lookup a with
 | some o =>
  have e := KX a o hk
  rw [ha] at e
  cases e
  refine core (fun _ => none) (fun _ => .inl rfl) (.inr ⟨_, vs.toArray, _, hk, rfl, rfl, rfl, by rw [List.size_toArray, lenV]; exact hl, by simpa using rv⟩) (fun b u z => by have z' : (none : Option HO) = some u := z; cases z') (fun b z => absurd rfl z) fun z => absurd rfl z
 | none =>
  refine core (fun b => if b = a then some (.frz { cls := .type "list", data := .seq vs.toArray } (.lst (ns.map V.int))) else none) (fun b => ?_) (.inl (.inr ⟨{ cls := .type "list", data := .seq vs.toArray }, if_pos rfl⟩)) (fun b u z => ?_) (fun b z => ?_) fun _ => hk
  ·by_cases hb : b = a
   ·exact .inr ⟨_, _, if_pos hb⟩
   ·exact .inl (if_neg hb)
  ·by_cases hb : b = a
   ·have z' := (if_pos hb).symm.trans z
    cases z'
    subst hb
    exact ⟨ha, by rw [List.length_map]; exact hl, vs, _, rv, ha⟩
   ·have z' := (if_neg hb).symm.trans z
    cases z'
  ·by_cases hb : b = a
   ·exact hb
   ·exact absurd (if_neg hb) z
abbrev KOf {K : PySem.W.Frag} {h : Heap} (_ : K.In h) : PySem.W.Frag := K
theorem zarm {l : PySem.W.OpenLaw} {n k : Nat} {q : Program} {loose : List Str} {XP : (Str → Option Value) → Heap → Prop} {YP : World → Heap → Prop} {d : DefRec} {K : Params → PySem.W.Frag} {CX : World → CXT} {sp : World → Sp} {x : Str}
  (hn : l.most = some n) (hn2 : n ≤ sizeLine) (hdf : d.params.defaults = []) (hr : Room k callerA)
  (hY : ∀ (w : World) (h : Heap), YP w h → (K w.params).In h)
  (F : ∀ (w : World) (mg : Str → Option Value) (fa : Addr) (h : Heap), (K w.params).In h → h.Ns mainGlobals mg → mg d.name = some (.ref fa) →
   ∃ fd : FuncData, (∀ (s : Shared) (u : Value), BindsTo s fd ⟨[u], []⟩ [(x, u)]) ∧
    ∀ base : Heap, (K w.params).In base → base.Ns mainGlobals mg → FnOk l.prog w (K w.params) mg base (CX w) k fa fd [x] (sp w))
  (hsp : ∀ (w : World) (H : Hp) (a : Addr) (ns : List Int), ns.length ≤ n → Only H → SqL (K w.params) H a (ns.map V.int) → sp w [.ref a] H (fun v _ => v = .bl true) fun _ _ _ => False)
  (hCX : ∀ (w : World) (H : Hp) (s : Shared) (e : Value) (s' : Shared), CX w [] H s (fun _ _ _ => False) e s' → False) :
  PySem.W.WalkO q loose XP YP l.row.toRowW d [] (fun f vs => PySem.call f vs) := by
 refine Att.attach_call hn hdf fun w s₀ s₁ mg mb fa o pm cd doc a vs ns G Y ho hd hcd hmg hobj hints hlen hg => ?_
 have KX := hY w _ Y
 obtain ⟨fd, hb, hF⟩ := F w mg fa _ KX G.T.g hmg
 exact zape KX G.T.g G.T.b G.T.builtins G.T.nolimit hg hobj hints (Nat.le_trans hlen hn2) hr hF hb (fun H hO hS => hsp w H a ns hlen hO hS) fun H e s' => hCX w H s₁ e s'
theorem zapf {l : PySem.W.OpenLaw} {n k : Nat} {q : Program} {loose : List Str} {XP : (Str → Option Value) → Heap → Prop} {YP : World → Heap → Prop} {d : DefRec} {K : Params → PySem.W.Frag} {CX : CXT} {sp : PySem.W.Frag → Sp} {x : Str}
  (hn : l.most = some n) (hn2 : n ≤ sizeLine) (hdf : d.params.defaults = []) (hr : Room k callerA)
  (hY : ∀ (w : World) (h : Heap), YP w h → (K w.params).In h)
  (F : ∀ (w : World) (mg : Str → Option Value) (fa : Addr) (h : Heap), (K w.params).In h → h.Ns mainGlobals mg → mg d.name = some (.ref fa) →
   ∃ fd : FuncData, (∀ (s : Shared) (u : Value), BindsTo s fd ⟨[u], []⟩ [(x, u)]) ∧
    ∀ base : Heap, (K w.params).In base → base.Ns mainGlobals mg → FnOk l.prog w (K w.params) mg base CX k fa fd [x] (sp (K w.params)))
  (hsp : ∀ (K : PySem.W.Frag) (H : Hp) (a : Addr) (ns : List Int), ns.length ≤ n → Only H → SqL K H a (ns.map V.int) → sp K [.ref a] H (fun v _ => v = .bl true) fun _ _ _ => False)
  (hCX : ∀ (H : Hp) (s : Shared) (e : Value) (s' : Shared), CX [] H s (fun _ _ _ => False) e s' → False) :
  PySem.W.WalkO q loose XP YP l.row.toRowW d [] (fun f vs => PySem.call f vs) :=
 zarm (K := K) (CX := fun _ => CX) (sp := fun w => sp (K w.params)) hn hn2 hdf hr hY F (fun w H a ns h1 h2 h3 => hsp (K w.params) H a ns h1 h2 h3) fun _ H s e s' => hCX H s e s'
def inClass (s : Stmt) (j : Nat) : Stmt := match s with
 | .ClassDef _ _ _ body _ _ _ _ _ _ _ => body.getD j (.Pass ⟨0, 0, 0, 0⟩)
 | _ => .Pass ⟨0, 0, 0, 0⟩
def defArgs (s : Stmt) : Arguments := match s with
 | .FunctionDef _ a _ _ _ _ _ _ _ _ => a
 | _ => { posonlyargs := [], args := [], vararg := none, kwonlyargs := [], kw_defaults := [], kwarg := none, defaults := [] }
def defBody (s : Stmt) : List Stmt := match s with
 | .FunctionDef _ _ b _ _ _ _ _ _ _ => b
 | _ => []
def defScope (s : Stmt) : Scope := match s with
 | .FunctionDef _ _ _ _ _ _ sc _ _ _ => sc
 | _ => { kind := .function, names := [], isGenerator := false, isCoroutine := false }
abbrev CX0 : CXT := fun _ _ _ _ _ _ => False
abbrev E0 : XK := fun _ _ _ => False
theorem pass0 {X : Cx} : Passes CX0 X E0 := fun _ _ _ _ _ _ _ h => h.elim
structure Fun (K : PySem.W.Frag) (x qual : Str) (st : Stmt) (f : Addr) (fd : FuncData) : Prop where
 ex : ∃ (oc : Value) (od : Option Addr) (kV doc pm : Value) (an : Option Addr) (cdv ct : Value) (osl : Array (Option Value)),
  fd = PySem.W.fnOf x qual (defArgs st) (defBody st) (defScope st) .none kV doc pm an cdv ct ∧ K.lookup f = some ⟨oc, od, .func fd, osl⟩ ∧ PySem.W.codeIn K cdv qual = true
 kp : PySem.W.keepIn K (.ref f) = true
section
variable {P : Program} {w : World} {K : PySem.W.Frag} {mg : Str → Option Value} {base : Heap}
theorem Fun.ok {x qual : Str} {st : Stmt} {f : Addr} {fd : FuncData} {N ps : List Str} {k : Nat} {sp : Sp} (F : Fun K x qual st f fd) (S : FnScope N ps (defScope st)) (len : ∀ vs H Q E, sp vs H Q E → vs.length = ps.length)
  (hbody : ∀ (cdv : Value) (A : Around) (outer : List Env) (s : Shared) (H : Hp) (vs : List V) (Q : VK) (E : XK), Room k (A.deeper (envOfC qual (defScope st) s.heap.objs.size f cdv)) → sp vs H Q E →
   ∃ t, PSs (cxOf CX0 P w K mg base N qual (defScope st) f cdv A outer s H E).nox (defBody st) t ∧ t { nx := fun _ H' => Q .non H', rt := Q } (start N vs) H) : FnOk P w K mg base CX0 (k + 1) f fd ps sp := by
 obtain ⟨oc, od, kV, doc, pm, an, cdv, ct, osl, rfl, lk, hcd⟩ := F.ex
 refine zatz lk hcd S len fun A outer s H vs Q E hr hsp => ?_
 obtain ⟨t, h, q⟩ := hbody cdv A outer s H vs Q E hr hsp
 exact ⟨t, h.nox, q⟩
theorem Fun.binds {x qual : Str} {st : Stmt} {f : Addr} {fd : FuncData} {ps : List Str} (F : Fun K x qual st f fd)
  (h : ∀ (kV doc pm : Value) (an : Option Addr) (cdv ct : Value) (us : List Value), us.length = ps.length → bindArgs (PySem.W.fnOf x qual (defArgs st) (defBody st) (defScope st) .none kV doc pm an cdv ct) ⟨us, []⟩ = pure (ps.zip us)) : Binds K fd ps [] := by
 obtain ⟨oc, od, kV, doc, pm, an, cdv, ct, osl, rfl, lk, hcd⟩ := F.ex
 exact .all (h kV doc pm an cdv ct)
theorem zaa8 {x qual : Str} {st : Stmt} {f : Addr} {oc : Value} {od an : Option Addr} {osl : Array (Option Value)} {kV doc pm cdv ct : Value} (l : K.lookup f = some ⟨oc, od, .func (PySem.W.fnOf x qual (defArgs st) (defBody st) (defScope st) .none kV doc pm an cdv ct), osl⟩)
  (c : PySem.W.codeIn K cdv qual = true) (k : PySem.W.keepIn K (.ref f) = true) : Fun K x qual st f (PySem.W.fnOf x qual (defArgs st) (defBody st) (defScope st) .none kV doc pm an cdv ct) := ⟨⟨oc, od, kV, doc, pm, an, cdv, ct, osl, rfl, l, c⟩, k⟩
end
theorem zagk {A : Around} {k : Nat} (hr : Room k A) : A.units + 1 < cLine := Nat.lt_of_le_of_lt (Nat.add_le_add_left (by decide : 1 ≤ 64) _) hr.units
section
variable {X : Cx}
end
theorem iteF {A B : Prop} (h : B) : if false = true then A else B := by
 rw [if_neg Bool.false_ne_true]
 exact h
theorem iteT {A B : Prop} (h : A) : if true = true then A else B := by
 rw [if_pos rfl]
 exact h
theorem ite2 {c A B : Prop} [Decidable c] (h1 : c → A) (h2 : ¬ c → B) : if c then A else B := by
 by_cases h : c
 ·rw [if_pos h]
  exact h1 h
 ·rw [if_neg h]
  exact h2 h
def Same (H H' : Hp) : Prop := ∀ b o, H b = some o → H' b = some o
end L2

namespace L2
open PySem PySem.Spec PyProof.Rows
section
variable {κ : Type} [DecidableEq κ]
def valV (kvs : List (κ × V)) (k : κ) : Option V := (kvs.find? fun kv => decide (kv.1 = k)).map (·.2)
def putK (kvs : List (κ × V)) (k : κ) (v : V) : List (κ × V) :=
 if (kvs.any fun kv => decide (kv.1 = k)) = true then kvs.map (fun kv => if kv.1 = k then (kv.1, v) else kv) else kvs ++ [(k, v)]
def dropK (kvs : List (κ × V)) (k : κ) : List (κ × V) := kvs.filter fun kv => decide (kv.1 ≠ k)
theorem zabr {p : κ × V} {r : List (κ × V)} {k : κ} (e : p.1 = k) : valV (p :: r) k = some p.2 := by simp [valV, List.find?_cons, e]
theorem zabo {p : κ × V} {r : List (κ × V)} {k : κ} (e : ¬ p.1 = k) : valV (p :: r) k = valV r k := by simp [valV, List.find?_cons, e]
theorem zadt (k : κ) : ∀ kvs : List (κ × V), (kvs.any fun kv => decide (kv.1 = k)) = (valV kvs k).isSome
 | [] => rfl
 | p :: r => by
  rw [List.any_cons]
  by_cases e : p.1 = k
  ·simp only [zabr e, decide_eq_true e, Bool.true_or, Option.isSome_some]
  ·rw [zabo e, decide_eq_false e, Bool.false_or]; exact zadt k r
theorem zajv (k j : κ) (y : V) : ∀ kvs : List (κ × V), valV (kvs.map fun kv => if kv.1 = k then (kv.1, y) else kv) j = (valV kvs j).map fun x => if j = k then y else x
 | [] => rfl
 | p :: r => by
  have ih := zajv k j y r
  rw [List.map_cons]
  by_cases h : p.1 = k
  ·rw [if_pos h]
   by_cases e : p.1 = j
   ·rw [zabr (p := (p.1, y)) e, zabr e, Option.map_some, if_pos (e.symm.trans h)]
   ·rw [zabo (p := (p.1, y)) e, zabo e, ih]
  ·rw [if_neg h]
   by_cases e : p.1 = j
   ·rw [zabr (p := p) e, zabr e, Option.map_some, if_neg (fun z => h (e.trans z))]
   ·rw [zabo (p := p) e, zabo e, ih]
theorem zahy (k j : κ) (y : V) : ∀ kvs : List (κ × V), valV kvs k = none → valV (kvs ++ [(k, y)]) j = if j = k then some y else valV kvs j
 | [], _ => by
  by_cases e : k = j
  ·rw [if_pos e.symm]; exact zabr (p := (k, y)) e
  ·rw [if_neg (fun z => e z.symm)]; exact zabo (p := (k, y)) e
 | p :: r, hn => by
  rw [List.cons_append]
  have hk : ¬ p.1 = k := fun z => by rw [zabr z] at hn; cases hn
  rw [zabo hk] at hn
  have ih := zahy k j y r hn
  by_cases e : p.1 = j
  ·rw [zabr e, zabr e, if_neg (fun z => hk (e.trans z))]
  ·rw [zabo e, zabo e, ih]
theorem zapg (kvs : List (κ × V)) (k j : κ) (y : V) : valV (putK kvs k y) j = if j = k then some y else valV kvs j := by
 unfold putK
 by_cases a : (kvs.any fun kv => decide (kv.1 = k)) = true
 ·rw [if_pos a, zajv]
  rw [zadt] at a
  by_cases e : j = k
  ·obtain ⟨x, hx⟩ := Option.isSome_iff_exists.mp a
   rw [if_pos e, e, hx, Option.map_some, if_pos rfl]
  ·rw [if_neg e]
   cases valV kvs j with
   | none => rfl
   | some x => rw [Option.map_some, if_neg e]
 ·rw [if_neg a]
  refine zahy k j y kvs ?_
  rw [zadt] at a
  cases q : valV kvs k with
  | none => rfl
  | some x => rw [q] at a; exact (a rfl).elim
theorem zadp (kvs : List (κ × V)) (k : κ) (v : V) : (putK kvs k v).length ≤ kvs.length + 1 := by
 unfold putK
 split
 ·rw [List.length_map]; omega
 ·rw [List.length_append, List.length_cons, List.length_nil]; omega
theorem RelO.isSome_eq {o : Option V} {u : Option Value} (r : RelO o u) : o.isSome = u.isSome := by
 cases o with
 | none => cases u with
  | none => rfl
  | some _ => exact (show False from r).elim
 | some _ => cases u with
  | none => exact (show False from r).elim
  | some _ => rfl
theorem KV.val {kvs : List (κ × V)} {vs : List (κ × Value)} (r : KV kvs vs) (k : κ) : RelO (valV kvs k) (valueAt vs k) := by
 unfold KV at r
 induction r with
 | nil => exact True.intro
 | @cons p q ps qs h t ih =>
  obtain ⟨h1, h2⟩ := h
  by_cases e : p.1 = k
  ·have e' : q.1 = k := h1.symm.trans e
   have b : valueAt (q :: qs) k = some q.2 := by simp [valueAt, List.find?_cons, e']
   rw [zabr e, b]; exact h2
  ·have e' : ¬ q.1 = k := fun z => e (h1.trans z)
   have b : valueAt (q :: qs) k = valueAt qs k := by simp [valueAt, List.find?_cons, e']
   rw [zabo e, b]; exact ih
theorem KV.any {kvs : List (κ × V)} {vs : List (κ × Value)} (r : KV kvs vs) (k : κ) : (kvs.any fun kv => decide (kv.1 = k)) = vs.any fun kv => decide (kv.1 = k) := by
 unfold KV at r
 induction r with
 | nil => rfl
 | cons h t ih => rw [List.any_cons, List.any_cons, ih, h.1]
theorem KV.repl {kvs : List (κ × V)} {vs : List (κ × Value)} (r : KV kvs vs) (k : κ) {y : V} {u : Value} (ry : RelV y u) :
  KV (kvs.map fun kv => if kv.1 = k then (kv.1, y) else kv) (vs.map fun kv => if kv.1 = k then (kv.1, u) else kv) := by
 unfold KV at r ⊢
 induction r with
 | nil => exact .nil
 | @cons p q ps qs h t ih =>
  rw [List.map_cons, List.map_cons]
  refine .cons ?_ ih
  obtain ⟨h1, h2⟩ := h
  by_cases e : p.1 = k
  ·rw [if_pos e, if_pos (h1.symm.trans e)]; exact ⟨h1, ry⟩
  ·rw [if_neg e, if_neg (fun z => e (h1.trans z))]; exact ⟨h1, h2⟩
theorem KV.put {kvs : List (κ × V)} {vs : List (κ × Value)} (r : KV kvs vs) (k : κ) {y : V} {u : Value} (ry : RelV y u) : KV (putK kvs k y) (stored vs k u) := by
 unfold putK stored
 rw [r.any k]
 by_cases e : (vs.any fun kv => decide (kv.1 = k)) = true
 ·rw [if_pos e, if_pos e]; exact r.repl k ry
 ·rw [if_neg e, if_neg e]; exact Paired.snoc r ⟨rfl, ry⟩
theorem KV.length {kvs : List (κ × V)} {vs : List (κ × Value)} (r : KV kvs vs) : kvs.length = vs.length := Paired.length r
end
theorem zaiq {P : Program} {w : World} {k : Key} {u : Value} (r : RelV (kV k) u) : (mixKind P w).is k u = true := by
 cases k with
 | inl i => obtain ⟨t, e⟩ := (show ∃ t, u = Value.int i t from r); subst e; exact zain P w i t
 | inr x => obtain ⟨t, e⟩ := (show ∃ t, u = Value.str x t from r); subst e; exact zaio P w x t
theorem zahz {P : Program} {w : World} : ∀ {ks : List Key} {us : List Value}, Vals (ks.map kV) us → ItemsAre (mixKind P w) ks us
 | [], _, r => by rw [List.map_nil] at r; cases r; exact .nil
 | k :: ks, _, r => by
  rw [List.map_cons] at r
  cases r with
  | cons h t => exact .cons (zaiq h) (zahz t)
abbrev KT (H : Hp) : List (List Key × V) → List (List Key × Addr × Value) → Prop := Paired fun p q => p.1 = q.1 ∧ H q.2.1 = some (.tup (p.1.map kV)) ∧ RelV p.2 q.2.2
theorem KT.val {H : Hp} {kvs : List (List Key × V)} {xs : List (List Key × Addr × Value)} (r : KT H kvs xs) (k : List Key) : RelO (valV kvs k) ((atKey xs k).map (·.2)) := by
 induction r with
 | nil => exact True.intro
 | @cons p q ps qs h t ih =>
  obtain ⟨h1, _, h2⟩ := h
  by_cases e : p.1 = k
  ·have e' : q.1 = k := h1.symm.trans e
   have b : atKey (q :: qs) k = some q.2 := by simp [atKey, List.find?_cons, e']
   rw [zabr e, b]; exact h2
  ·have e' : ¬ q.1 = k := fun z => e (h1.trans z)
   have b : atKey (q :: qs) k = atKey qs k := by simp [atKey, List.find?_cons, e']
   rw [zabo e, b]; exact ih
theorem KT.repl {H : Hp} {kvs : List (List Key × V)} {xs : List (List Key × Addr × Value)} (r : KT H kvs xs) (k : List Key) {y : V} {u : Value} (ry : RelV y u) :
  KT H (kvs.map fun kv => if kv.1 = k then (kv.1, y) else kv) (xs.map (putAt k u)) := by
 induction r with
 | nil => exact .nil
 | @cons p q ps qs h t ih =>
  rw [List.map_cons, List.map_cons]
  refine .cons ?_ ih
  obtain ⟨h1, h2, h3⟩ := h
  unfold putAt
  by_cases e : p.1 = k
  ·rw [if_pos e, if_pos (h1.symm.trans e)]; exact ⟨h1, h2, ry⟩
  ·rw [if_neg e, if_neg (fun z => e (h1.trans z))]; exact ⟨h1, h2, h3⟩
theorem KT.put {H : Hp} {kvs : List (List Key × V)} {xs : List (List Key × Addr × Value)} (r : KT H kvs xs) (k : List Key) {b : Addr} {y : V} {u : Value} (hb : H b = some (.tup (k.map kV))) (ry : RelV y u) :
  KT H (putK kvs k y) (storedH xs k b u) := by
 have e : (kvs.any fun kv => decide (kv.1 = k)) = (atKey xs k).isSome := by
  rw [zadt, (r.val k).isSome_eq, Option.isSome_map]
 unfold putK storedH
 rw [e]
 by_cases q : (atKey xs k).isSome = true
 ·rw [if_pos q, if_pos q]; exact r.repl k ry
 ·rw [if_neg q, if_neg q]; exact Paired.snoc r ⟨rfl, hb, ry⟩
theorem KT.keeps {H H' : Hp} {kvs : List (List Key × V)} {xs : List (List Key × Addr × Value)} (r : KT H kvs xs) (ht : ∀ b ys, H b = some (.tup ys) → H' b = some (.tup ys)) : KT H' kvs xs :=
 Paired.mapP r fun _ _ z => ⟨z.1, ht _ _ z.2.1, z.2.2⟩
section
variable {P : Program} {w : World} {H : Hp} {h : Heap} {a : Addr}
theorem zat6 {u : HO} (ok : HOk P w H h) (e : Rd H a u) : ObjOk P w H h a u := e.ok ok
theorem zalu {kvs : List (Key × V)} (ok : HOk P w H h) (e : Rd H a (.dK kvs)) : kvs.length ≤ sizeLine ∧ (a == sysModules) = false ∧ ∃ vs, KV kvs vs ∧ h.DictOf (mixKind P w) a vs :=
 show ObjOk P w H h a (.dK kvs) from zat6 ok e
theorem zat7 {kvs : List (Key × V)} (ok : HOk P w H h) (e : H a = some (.dK kvs)) : kvs.length ≤ sizeLine ∧ (a == sysModules) = false ∧ ∃ vs, KV kvs vs ∧ h.DictOf (mixKind P w) a vs := zalu ok (.inl e)
theorem zah0 {ks : List Key} (ok : HOk P w H h) (e : H a = some (.tup (ks.map kV))) : (tupleKind (mixKind P w)).is h ks a := by
 obtain ⟨_, its, r, o, h1, h2, n, h3⟩ := (show ObjOk P w H h a (.tup (ks.map kV)) from ok a _ e)
 exact ⟨o, its.toArray, n, h1, h2, h3, by simpa using zahz r⟩
theorem zalv {kvs : List (List Key × V)} (ok : HOk P w H h) (e : Rd H a (.dT kvs)) : kvs.length ≤ sizeLine ∧ (a == sysModules) = false ∧
  ∃ xs, KT H kvs xs ∧ h.DictOfH (tupleKind (mixKind P w)) a xs := by
 obtain ⟨z, y, xs, r, o, es, ep, h1, h2, h3, h4, h5⟩ := (show ObjOk P w H h a (.dT kvs) from zat6 ok e)
 refine ⟨z, y, xs, r, o, es, ep, h1, h2, h3, h4, fun x hx => ?_, h5⟩
 have all : ∀ {l : List (List Key × V)} {m : List (List Key × Addr × Value)}, KT H l m → ∀ x ∈ m, (tupleKind (mixKind P w)).is h x.1 x.2.1 := by
  intro l m q
  induction q with
  | nil => intro x hx; exact nomatch hx
  | @cons p q ps qs hq t ih =>
   intro x hx
   rcases List.mem_cons.mp hx with e | hx
   ·subst e
    exact zah0 ok (by rw [← hq.1]; exact hq.2.1)
   ·exact ih x hx
 exact all r x hx
theorem zavf {kvs : List (List Key × V)} (ok : HOk P w H h) (e : H a = some (.dT kvs)) : kvs.length ≤ sizeLine ∧ (a == sysModules) = false ∧
  ∃ xs, KT H kvs xs ∧ h.DictOfH (tupleKind (mixKind P w)) a xs := zalv ok (.inl e)
end
def DGet (H : Hp) (a : Addr) (y : V) (r : Option V) : Prop :=
 (∃ kvs k, Rd H a (.dK kvs) ∧ y = kV k ∧ r = valV kvs k) ∨ ∃ kvs k b, Rd H a (.dT kvs) ∧ y = .ref b ∧ H b = some (.tup (k.map kV)) ∧ r = valV kvs k
def DPut (H : Hp) (a : Addr) (y v : V) (H' : Hp) : Prop :=
 (∃ kvs k, H a = some (.dK kvs) ∧ y = kV k ∧ kvs.length < sizeLine ∧ H' = upd H a (.dK (putK kvs k v))) ∨
 ∃ kvs k b, H a = some (.dT kvs) ∧ y = .ref b ∧ H b = some (.tup (k.map kV)) ∧ kvs.length < sizeLine ∧ H' = upd H a (.dT (putK kvs k v))
theorem DGet.k {H : Hp} {a : Addr} {kvs : List (Key × V)} {k : Key} (e : H a = some (.dK kvs)) : DGet H a (kV k) (valV kvs k) := .inl ⟨kvs, k, .inl e, rfl, rfl⟩
theorem DPut.k {H : Hp} {a : Addr} {kvs : List (Key × V)} {k : Key} {v : V} (e : H a = some (.dK kvs)) (hl : kvs.length < sizeLine) : DPut H a (kV k) v (upd H a (.dK (putK kvs k v))) := .inl ⟨kvs, k, e, rfl, hl, rfl⟩
section
variable {X : Cx} {pins : List (Addr × Obj)} {σ : St} {H : Hp} {s : Shared} {a : Addr} {y v : V} {u r : Value} {o : Option V} {A : Around} {E : Value → Shared → Prop}
theorem Inv.big (I : Inv X pins σ H s) : sysModules < s.heap.objs.size := by
 have h : mainGlobals < s.heap.objs.size := (I.mod.glob.keeps I.bk).lt
 exact Nat.lt_trans (by decide) h
theorem zah1 {Q : Value → Shared → Prop} (hu : A.units + 1 < cLine) (I : Inv X pins σ H s) (g : DGet H a y (some v)) (ry : RelV y u) (h : ∀ w' s', Inv X pins σ H s' → RelV v w' → Q w' s') :
  wpAny (model X.prog X.w) A (getItem (.ref a) u) Q E s := by
 rcases g with ⟨kvs, k, e, ey, l⟩ | ⟨kvs, k, b, e, ey, eb, l⟩
 ·subst ey
  obtain ⟨z, hd, vs, rel, dd⟩ := zalu I.hok e
  obtain ⟨w', hw, rw'⟩ := RelO.some_of (v := v) (o := valueAt vs k) (by rw [l]; exact rel.val k)
  exact wpAny_getItem_of (zaiq ry) dd.mapOf hw (h w' _ (I.tok _) rw')
 ·subst ey
  cases (show u = Value.ref b from ry)
  obtain ⟨z, hd, xs, rel, dd⟩ := zalv I.hok e
  obtain ⟨w', hw, rw'⟩ := RelO.some_of (v := v) (o := (atKey xs k).map (·.2)) (by rw [l]; exact rel.val k)
  obtain ⟨p, hp, hp2⟩ := Option.map_eq_some_iff.mp hw
  refine wpAny_getItem_heap (tupleKind_room_in1 hu) (zah0 I.hok eb) dd hp ?_
  rw [hp2]
  exact h w' _ (I.tok _) rw'
theorem d_in {Q : Value → Shared → Prop} (hu : A.units + 1 < cLine) (I : Inv X pins σ H s) (g : DGet H a y o) (ry : RelV y u) (h : ∀ s', Inv X pins σ H s' → Q (.bool o.isSome) s') :
  wpAny (model X.prog X.w) A (compareOp .In u (.ref a)) Q E s := by
 rcases g with ⟨kvs, k, e, ey, l⟩ | ⟨kvs, k, b, e, ey, eb, l⟩
 ·subst ey
  obtain ⟨z, hd, vs, rel, dd⟩ := zalu I.hok e
  refine wpAny_in_of (zaiq ry) hd dd.mapOf ?_
  rw [← (rel.val k).isSome_eq, ← l]
  exact h _ (I.tok _)
 ·subst ey
  cases (show u = Value.ref b from ry)
  obtain ⟨z, hd, xs, rel, dd⟩ := zalv I.hok e
  refine wpAny_in_heap (tupleKind_room_in1 hu) (zah0 I.hok eb) hd dd ?_
  have q := (rel.val k).isSome_eq
  rw [Option.isSome_map] at q
  rw [← q, ← l]
  exact h _ (I.tok _)
theorem zarn {Q : Value → Shared → Prop} (hu : A.units + 1 < cLine) (I : Inv X pins σ H s) (g : DGet H a y o) (ry : RelV y u) (h : ∀ s', Inv X pins σ H s' → Q (.bool (!o.isSome)) s') :
  wpAny (model X.prog X.w) A (compareOp .NotIn u (.ref a)) Q E s := by
 rcases g with ⟨kvs, k, e, ey, l⟩ | ⟨kvs, k, b, e, ey, eb, l⟩
 ·subst ey
  obtain ⟨z, hd, vs, rel, dd⟩ := zalu I.hok e
  refine wpAny_notIn_of (zaiq ry) hd dd.mapOf ?_
  rw [← (rel.val k).isSome_eq, ← l]
  exact h _ (I.tok _)
 ·subst ey
  cases (show u = Value.ref b from ry)
  obtain ⟨z, hd, xs, rel, dd⟩ := zalv I.hok e
  refine wpAny_notIn_heap (tupleKind_room_in1 hu) (zah0 I.hok eb) hd dd ?_
  have q := (rel.val k).isSome_eq
  rw [Option.isSome_map] at q
  rw [← q, ← l]
  exact h _ (I.tok _)
theorem zair {h' : Heap} {t' : Nat} {ob : HO} (I : Inv X pins σ H s) (mu : Mut (H a)) (hs : Heap.SameBut a s.heap h') (he : ∃ q, h'.get? a = some q) (new : ObjOk X.prog X.w (upd H a ob) h' a ob) :
  Inv X pins σ (upd H a ob) { s with heap := h', toks := t' } :=
 I.write (x := a) (e := a) mu (.inl rfl) (fun b q hb z => (hs.2 b hb).trans z) he new
theorem zaqo {P : Program} {w : World} {H' : Hp} {h' : Heap} {kvs : List (Key × V)} {vs : List (Key × Value)} (z : kvs.length ≤ sizeLine) (hd : (a == sysModules) = false) (rel : KV kvs vs) (dd : h'.DictOf (mixKind P w) a vs) :
  ObjOk P w H' h' a (.dK kvs) := ⟨z, hd, vs, rel, dd⟩
theorem zalw {H' : Hp} {Q : Unit → Shared → Prop} (hu : A.units + 1 < cLine) (I : Inv X pins σ H s) (g : DPut H a y v H') (ry : RelV y u) (rv : RelV v r) (h : ∀ s', Inv X pins σ H' s' → Q () s') :
  wpAny (model X.prog X.w) A (setItem (.ref a) u r) Q E s := by
 rcases g with ⟨kvs, k, e, ey, l, eH⟩ | ⟨kvs, k, b, e, ey, eb, l, eH⟩
 ·subst ey eH
  obtain ⟨z, hd, vs, rel, dd⟩ := zat7 I.hok e
  have hz : vs.length ≤ sizeLine := by rw [← rel.length]; exact z
  have hl : (putK kvs k v).length ≤ sizeLine := by have := zadp kvs k v; omega
  refine wpAny_setItem_pairs (hsz := hz) (zaiq ry) dd fun h' dd' hs => h _ ?_
  have he : ∃ q, h'.get? a = some q := let ⟨q, _, _, hq, _⟩ := dd'; ⟨q, hq⟩
  exact zair I (by rw [e]; exact True.intro) hs he (zaqo hl hd (rel.put k rv) dd')
 ·subst ey eH
  cases (show u = Value.ref b from ry)
  obtain ⟨z, hd, xs, rel, dd⟩ := zavf I.hok e
  have hz : xs.length ≤ sizeLine := by rw [← Paired.length rel]; exact z
  have hl : (putK kvs k v).length ≤ sizeLine := by have := zadp kvs k v; omega
  refine wpAny_setItem_heap (hsz := hz) (tupleKind_room_in1 hu) (zah0 I.hok eb) dd fun h' dd' hs => h _ ?_
  obtain ⟨q, es, ep, hq, h2, h3, h4, _, h5⟩ := dd'
  refine zair I (by rw [e]; exact True.intro) hs ⟨q, hq⟩ ⟨hl, hd, _, (rel.put k eb rv).keeps fun c ys ec => ?_, q, es, ep, hq, h2, h3, h4, h5⟩
  rw [zaaw (zabl ec e (fun z => nomatch z))]
  exact ec
end
section
variable {X : Cx} {pins : List (Addr × Obj)} {σ : St} {H : Hp} {s : Shared} {a : Addr} {kvs : List (Key × V)} {k : Key} {u : Value} {A : Around} {E : Value → Shared → Prop}
end
def NoSl (i : Expr) : Prop := ∀ ov iv, subscripted i false ov iv = operate [ov, iv] (getItem ov iv)
theorem zaro {prog : Program} {w : World} {A : Around} {E : Value → Shared → Prop} {s : Shared} {env : Env} {value slice : Expr} {pos : Pos} {T id : String} {Q : Value → Shared → Prop}
  (hl : typeLookup (.type T) "__getitem__" = pure (some (.builtin id))) (hs : NoSl slice)
  (h : wpAny (model prog w) A (eval value env) (fun o s₁ => wpAny (model prog w) A (eval slice env) (fun i s₂ => s₂.TypeIs o T ∧ wpAny (model prog w) A (getItem o i) Q E s₂) E s₁) E s) :
  wpAny (model prog w) A (eval (.Subscript value slice pos) env) Q E s := by
 refine Subscript_ (wpAny_mono h (fun o s₁ h₁ => wpAny_mono h₁ (fun i s₂ h₂ => ?_) fun _ _ x => x) fun _ _ x => x)
 obtain ⟨hT, h₂⟩ := h₂
 unfold subscriptTail
 refine wpAny_bind ?_
 rw [getitemInPython_of_ne hT.not_modules]
 refine wpAny_bind (wpAny_specialOf hT hl ?_)
 have fin : wpAny (model prog w) A (subscripted slice false o i) (fun r s₃ => wpAny (model prog w) A (letTemporaryGo value o r >>= fun _ => pure r) Q E s₃) E s₂ := by
  rw [hs o i]
  exact wpAny_operating (wpAny_mono h₂ (fun r s₃ h₃ => wpAny_bind (wpAny_letTemporaryGo (wpAny_pure h₃))) fun _ _ x => x)
 first
  | exact wpAny_pure (wpAny_bind fin)
  | exact wpAny_bind (wpAny_pure (wpAny_bind fin))
  | exact wpAny_bind fin
theorem zae9 {X : Cx} {pins : List (Addr × Obj)} {σ : St} {H : Hp} {s : Shared} {a : Addr} {y : V} {o : Option V} (I : Inv X pins σ H s) (g : DGet H a y o) : s.TypeIs (.ref a) "dict" := by
 rcases g with ⟨kvs, k, e, _, _⟩ | ⟨kvs, k, b, e, _, _, _⟩
 ·obtain ⟨_, _, vs, _, dd⟩ := zalu I.hok e
  exact dd.typeIs
 ·obtain ⟨_, _, xs, _, dd⟩ := zalv I.hok e
  exact dd.typeIs
def tDGet (td ty : TE) : TE := fun σ H Q => td σ H fun x H1 => ty σ H1 fun y H2 => ∃ a v, x = .ref a ∧ DGet H2 a y (some v) ∧ Q v H2
def tDIn (ty td : TE) : TE := fun σ H Q => ty σ H fun y H1 => td σ H1 fun x H2 => ∃ a o, x = .ref a ∧ DGet H2 a y o ∧ Q (.bl o.isSome) H2
def tDNotIn (ty td : TE) : TE := fun σ H Q => ty σ H fun y H1 => td σ H1 fun x H2 => ∃ a o, x = .ref a ∧ DGet H2 a y o ∧ Q (.bl (!o.isSome)) H2
def sDPut (td ty tv : TE) : TS := fun D σ H => tv σ H fun v H1 => td σ H1 fun x H2 => ty σ H2 fun y H3 => ∃ a H4, x = .ref a ∧ DPut H3 a y v H4 ∧ D.nx σ H4
def sDAug (td ty tv : TE) (rd : V → V → Hp → VK → Prop) : TS := fun D σ H => td σ H fun x H1 => ty σ H1 fun y H2 => ∃ a v, x = .ref a ∧ DGet H2 a y (some v) ∧
 tv σ H2 fun y2 H3 => rd v y2 H3 fun z H4 => ∃ H5, DPut H4 a y z H5 ∧ D.nx σ H5
def sDDel (td ty : TE) : TS := fun D σ H => td σ H fun x H1 => ty σ H1 fun y H2 => ∃ a kvs k, x = .ref a ∧ H2 a = some (.dK kvs) ∧ y = kV k ∧ (valV kvs k).isSome = true ∧ D.nx σ (upd H2 a (.dK (dropK kvs k)))
section
variable {X : Cx} {o i e value : Expr} {pos pos' tpos : Pos} {td ty tv : TE}
theorem zarp (hu : X.A.units + 1 < cLine) (ho : PE X o td) (hi : PE X i ty) (hs : NoSl i) : PE X (.Subscript o i pos) (tDGet td ty) := by
 intro pins s σ H Q I h
 refine zaro PySem.F.slot_dict_getitem.lookup hs (thn (ho pins s σ H _ I h) fun u s1 ⟨x, H1, I1, rx, q1⟩ => thn (hi pins s1 σ H1 _ I1 q1) fun iv s2 ⟨y, H2, I2, ry, a, v, ex, g, q2⟩ => ?_)
 subst ex
 obtain rfl : u = Value.ref a := rx
 exact ⟨zae9 I2 g, zah1 hu I2 g ry fun w' s3 I3 rw' => ⟨v, H2, I3, rw', q2⟩⟩
theorem zat8 (hu : X.A.units + 1 < cLine) (hi : PE X i ty) (ho : PE X o td) : PC X .In i o (tDIn ty td) := by
 intro pins s σ H Q I h
 refine thn (hi pins s σ H _ I h) fun iv s1 ⟨y, H1, I1, ry, q1⟩ => thn (ho pins s1 σ H1 _ I1 q1) fun u s2 ⟨x, H2, I2, rx, a, ov, ex, g, q2⟩ => ?_
 subst ex
 obtain rfl : u = Value.ref a := rx
 exact d_in hu I2 g ry fun s3 I3 => ⟨.bl ov.isSome, H2, I3, rfl, q2⟩
theorem zalx (hu : X.A.units + 1 < cLine) (hi : PE X i ty) (ho : PE X o td) : PC X .NotIn i o (tDNotIn ty td) := by
 intro pins s σ H Q I h
 refine thn (hi pins s σ H _ I h) fun iv s1 ⟨y, H1, I1, ry, q1⟩ => thn (ho pins s1 σ H1 _ I1 q1) fun u s2 ⟨x, H2, I2, rx, a, ov, ex, g, q2⟩ => ?_
 subst ex
 obtain rfl : u = Value.ref a := rx
 exact zarn hu I2 g ry fun s3 I3 => ⟨.bl (!ov.isSome), H2, I3, rfl, q2⟩
theorem zarq (hu : X.A.units + 1 < cLine) (ho : PE X o td) (hi : PE X i ty) (hv : PE X value tv) (hs : swapsWith value (some (.Subscript o i pos')) pos.line X.env = pure false) :
  PS X (.Assign [.Subscript o i pos'] value pos) (sDPut td ty tv) := by
 intro pins s σ H D I h
 refine wpAny_Assign_Subscript (thn (hv pins s σ H _ I h) fun r s1 ⟨v, H1, I1, rv, q1⟩ => thn (ho pins s1 σ H1 _ I1 q1) fun u s2 ⟨x, H2, I2, rx, q2⟩ => thn (hi pins s2 σ H2 _ I2 q2) fun iv s3 ⟨y, H3, I3, ry, a, H4, ex, g, q3⟩ => ?_) hs
 subst ex
 obtain rfl : u = Value.ref a := rx
 exact zalw hu I3 g ry rv fun s4 I4 => ⟨σ, H4, I4, q3⟩
end
theorem zajw {P : Program} {w : World} {H : Hp} (h : Heap) (hb : sysModules < h.objs.size) : ObjOk P w H (h.push { cls := .type "dict", data := .dict #[] }) h.objs.size (.dK []) :=
 ⟨Nat.zero_le _, beq_eq_false_iff_ne.mpr (Ne.symm (Nat.ne_of_lt hb)), [], .nil, Heap.DictOf.new h⟩
def tDNewK : TE := fun _ H Q => ∀ p, H p = none → Q (.ref p) (upd H p (.dK []))
def tDNewT : TE := fun _ H Q => ∀ p, H p = none → Q (.ref p) (upd H p (.dT []))
section
variable {X : Cx} {pos : Pos}
theorem zaph : PE X (.Dict [] [] pos) tDNewK := fun pins s σ H Q I h =>
 wpAny_Dict_empty ⟨.ref s.heap.objs.size, _, I.laid (a := s.heap.objs.size) (o := .dK []) (t' := s.toks) (fun _ _ q => Heap.get?_push_of_some _ q) (Nat.le_refl _) (zajw s.heap I.big), rfl, h _ (I.hok.fresh (Nat.le_refl _))⟩
end
def tPairs : List (TE × TE) → St → Hp → (List (V × V) → Hp → Prop) → Prop
 | [], _, H, Q => Q [] H
 | (tk, tv) :: r, σ, H, Q => tk σ H fun x H1 => tv σ H1 fun y H2 => tPairs r σ H2 fun ps H3 => Q ((x, y) :: ps) H3
abbrev VV : List (V × V) → List (Value × Value) → Prop := Paired fun p q => RelV p.1 q.1 ∧ RelV p.2 q.2
def PPs (X : Cx) (pos : Pos) (keys : List (Option Expr)) (values : List Expr) (trs : List (TE × TE)) : Prop :=
 ∀ (pins : List (Addr × Obj)) (s : Shared) (σ : St) (H : Hp) (Q : List (V × V) → Hp → Prop), Inv X pins σ H s → tPairs trs σ H Q →
  wpAny (model X.prog X.w) X.A (evalPairs (pairTrees keys values X.env pos)) (fun vs s' => ∃ ps H', Inv X pins σ H' s' ∧ VV ps vs ∧ Q ps H') X.xe s
theorem zarr {X : Cx} {pos : Pos} : PPs X pos [] [] [] := fun pins s σ H Q I h => pairTrees_nil_walk ⟨[], H, I, .nil, h⟩
theorem zapi {X : Cx} {pos : Pos} {k v : Expr} {ks : List (Option Expr)} {vs : List Expr} {tk tv : TE} {trs : List (TE × TE)} (hk : PE X k tk) (hv : PE X v tv) (hr : PPs X pos ks vs trs) :
  PPs X pos (some k :: ks) (v :: vs) ((tk, tv) :: trs) := fun pins s σ H Q I h =>
 pairTrees_cons_walk (thn (hk pins s σ H _ I h) fun u s1 ⟨x, H1, I1, rx, q1⟩ => thn (hv pins s1 σ H1 _ I1 q1) fun w2 s2 ⟨y, H2, I2, ry, q2⟩ =>
  thn (hr pins s2 σ H2 _ I2 q2) fun ws s3 ⟨ps, H3, I3, rel, q3⟩ => ⟨(x, y) :: ps, H3, I3, .cons ⟨rx, ry⟩ rel, q3⟩)
def mergeK (kvs more : List (Key × V)) : List (Key × V) := more.foldl (fun acc kv => putK acc kv.1 kv.2) kvs
theorem KV.merge : ∀ {more : List (Key × V)} {rs : List (Key × Value)} {kvs : List (Key × V)} {vs : List (Key × Value)}, KV more rs → KV kvs vs → KV (mergeK kvs more) (merged vs rs) := by
 intro more rs kvs vs r
 unfold KV at r
 induction r generalizing kvs vs with
 | nil => intro q; exact q
 | @cons p q ps qs h t ih =>
  intro r0
  have e : KV (putK kvs p.1 p.2) (stored vs q.1 q.2) := by
   have := r0.put p.1 h.2
   rw [← h.1]; exact this
  exact ih e
theorem zadu : ∀ (more kvs : List (Key × V)), (mergeK kvs more).length ≤ kvs.length + more.length
 | [], kvs => by show kvs.length ≤ kvs.length + 0; omega
 | p :: r, kvs => by
  have h1 := zadu r (putK kvs p.1 p.2)
  have h2 := zadp kvs p.1 p.2
  show (mergeK (putK kvs p.1 p.2) r).length ≤ _
  rw [List.length_cons]; omega
theorem zagb {P : Program} {w : World} : ∀ {kvs : List (Key × V)} {ws : List (Value × Value)}, VV (kvs.map fun kv => (kV kv.1, kv.2)) ws → ∃ rs, Carries (mixKind P w) ws rs ∧ KV kvs rs
 | [], _, r => by rw [List.map_nil] at r; cases r; exact ⟨[], True.intro, .nil⟩
 | p :: kvs, _, r => by
  rw [List.map_cons] at r
  cases r with
  | @cons a b as bs h t =>
   obtain ⟨rs, c, q⟩ := zagb (P := P) (w := w) t
   obtain ⟨b1, b2⟩ := b
   exact ⟨(p.1, b2) :: rs, ⟨zaiq h.1, rfl, c⟩, .cons ⟨rfl, h.2⟩ q⟩
def tDisp (trs : List (TE × TE)) : TE := fun σ H Q => ∀ p, H p = none → tPairs trs σ (upd H p (.dK [])) fun ps H2 => H2 p = some (.dK []) ∧ ∃ kvs : List (Key × V), ps = kvs.map (fun kv => (kV kv.1, kv.2)) ∧ kvs.length ≤ 15 ∧ Q (.ref p) (upd H2 p (.dK (mergeK [] kvs)))
theorem zars {X : Cx} {pos : Pos} {keys : List (Option Expr)} {values : List Expr} {trs : List (TE × TE)} (h : PPs X pos keys values trs) (hall : keys.all (·.isSome) = true) (hl : keys.length = values.length) (h0 : keys ≠ [])
  (h15 : keys.length ≤ 15) : PE X (.Dict keys values pos) (tDisp trs) := by
 intro pins s σ H Q I q
 have hn := I.hok.fresh (Nat.le_refl s.heap.objs.size)
 have I1 := I.laid (a := s.heap.objs.size) (o := .dK []) (h' := s.heap.push { cls := .type "dict", data := .dict #[] }) (t' := s.toks) (fun _ _ q => Heap.get?_push_of_some _ q) (Nat.le_refl _) (zajw s.heap I.big)
 refine wpAny_Dict_walk (knd := mixKind X.prog X.w) hall hl h0 h15 (thn (h pins _ σ _ _ I1 (q _ hn)) fun ws s2 ⟨ps, H2, I2, rel, e, kvs, ep, lk, q2⟩ => ?_)
 subst ep
 obtain ⟨rs, c, rk⟩ := zagb (P := X.prog) (w := X.w) rel
 obtain ⟨z, hd, vs0, r0, dd⟩ := zat7 I2.hok e
 cases r0
 refine ⟨rs, c, dd, fun h' dd' hs => ⟨.ref s.heap.objs.size, _, ?_, rfl, q2⟩⟩
 have hz : (mergeK [] kvs).length ≤ sizeLine := by
  have h1 := zadu kvs []
  rw [List.length_nil] at h1
  rw [sizeLine_eq]; omega
 have he : ∃ q, h'.get? s.heap.objs.size = some q := let ⟨q, _, _, hq, _⟩ := dd'; ⟨q, hq⟩
 exact zair I2 (by rw [e]; exact True.intro) hs he (zaqo hz hd (rk.merge .nil) dd')
structure M1 (X : Cx) (o : Expr) (m : Str) (apos : Pos) (e : Expr) (cpos : Pos) : Prop where
 base : attributeBase o m X.env (eval o X.env) = eval o X.env
 few : ((backTo cpos (starEach [e] X.env)).all (fun x => !x.1) && (backToKw cpos (keywordEach [] X.env)).all (fun x => x.1.isSome)
  && decide (([e] : List Expr).length + ([] : List Keyword).length + (if ([] : List Keyword).isEmpty then 0 else 1) < 30)) = true
 line : (apos.endLine == cpos.line) = true
 trees : backTo cpos (starEach [e] X.env) = [(false, eval e X.env)]
structure M2 (X : Cx) (o : Expr) (m : Str) (apos : Pos) (e f : Expr) (cpos : Pos) : Prop where
 base : attributeBase o m X.env (eval o X.env) = eval o X.env
 few : ((backTo cpos (starEach [e, f] X.env)).all (fun x => !x.1) && (backToKw cpos (keywordEach [] X.env)).all (fun x => x.1.isSome)
  && decide (([e, f] : List Expr).length + ([] : List Keyword).length + (if ([] : List Keyword).isEmpty then 0 else 1) < 30)) = true
 line : (apos.endLine == cpos.line) = true
 trees : backTo cpos (starEach [e, f] X.env) = [(false, eval e X.env), (false, eval f X.env)]
def IsD (H : Hp) (a : Addr) : Prop := (∃ kvs, Rd H a (.dK kvs)) ∨ ∃ kvs, Rd H a (.dT kvs)
section
variable {X : Cx} {pins : List (Addr × Obj)} {σ : St} {H : Hp} {s : Shared} {a : Addr} {y d : V} {u r : Value} {o : Option V} {A : Around} {E : Value → Shared → Prop}
end
def tDGet1 (td ty : TE) : TE := fun σ H Q => td σ H fun x H1 => ∃ a, x = .ref a ∧ IsD H1 a ∧ ty σ H1 fun y H2 => ∃ o, DGet H2 a y o ∧ Q (o.getD .non) H2
def tDGet2 (td ty tx : TE) : TE := fun σ H Q => td σ H fun x H1 => ∃ a, x = .ref a ∧ IsD H1 a ∧ ty σ H1 fun y H2 => tx σ H2 fun z H3 => ∃ o, DGet H3 a y o ∧ Q (o.getD z) H3
def tDPop1 (td ty : TE) : TE := fun σ H Q => td σ H fun x H1 => ∃ a, x = .ref a ∧ IsD H1 a ∧ ty σ H1 fun y H2 => ∃ kvs k v, H2 a = some (.dK kvs) ∧ y = kV k ∧ valV kvs k = some v ∧ Q v (upd H2 a (.dK (dropK kvs k)))
def tDPop2 (td ty tx : TE) : TE := fun σ H Q => td σ H fun x H1 => ∃ a, x = .ref a ∧ IsD H1 a ∧ ty σ H1 fun y H2 => tx σ H2 fun z H3 => ∃ kvs k, H3 a = some (.dK kvs) ∧ y = kV k ∧
 (∀ v, valV kvs k = some v → Q v (upd H3 a (.dK (dropK kvs k)))) ∧ (valV kvs k = none → Q z H3)
section
variable {X : Cx} {o e f : Expr} {apos cpos : Pos} {td ty tx : TE}
end
section
variable {X : Cx} {pins : List (Addr × Obj)} {σ : St} {H : Hp} {s : Shared} {a : Addr} {kvs : List (Key × V)} {A : Around} {E : Value → Shared → Prop}
end
section
variable {X : Cx} {pins : List (Addr × Obj)} {σ : St} {H : Hp} {s : Shared} {a : Addr} {y : V} {u : Value} {A : Around} {E : Value → Shared → Prop}
end
section
variable {X : Cx}
end
section
variable {κ : Type} [DecidableEq κ]
end
end L2

namespace L2
open PySem PySem.Spec PyProof.Rows
structure DefOk (P : Program) (w : World) (K : PySem.W.Frag) (mg : Str → Option Value) (base : Heap) (CX : CXT) (k : Nat) (x : Str) (ps : List Str) (sp : Sp) : Prop where
 ex : ∃ (f : Addr) (fd : FuncData), FnOk P w K mg base CX k f fd ps sp ∧ Binds K fd ps [] ∧ PySem.W.keepIn K (.ref f) = true ∧ mg x = some (.ref f)
theorem DefOk.mono {P : Program} {w : World} {K : PySem.W.Frag} {mg : Str → Option Value} {base : Heap} {CX : CXT} {j k : Nat} {x : Str} {ps : List Str} {sp : Sp} (D : DefOk P w K mg base CX j x ps sp) (h : j ≤ k) : DefOk P w K mg base CX k x ps sp := by
 obtain ⟨f, fd, F, b⟩ := D.ex
 exact ⟨f, fd, F.mono h, b⟩
section
variable {X : Cx} {CX : CXT} {k : Nat} {ps : List Str} {sp : Sp} {E : XK} {x : Str} {p pos : Pos} {e : Expr} {es : List Expr} {t : TA}
theorem zapj (D : DefOk X.prog X.w X.K X.mg X.base CX k x ps sp) (hr : Room k X.A) (hg : Gl X x) (hx : Passes CX X E) (ha : PA X (e :: es) t) (hdb : (x == ("__debug__" : Str)) = false := by decide)
  (he : starEach (e :: es) X.env = (false, eval e X.env) :: starEach es X.env := by rfl) (hpl : (backTo pos (starEach es X.env)).any (·.1) = false := by rfl) :
  PE X (.Call (.Name x p) (e :: es) [] pos) (tCall sp [] E t) := by
 obtain ⟨f, fd, F, b, kp, m⟩ := D.ex
 exact zarf F hr hg m kp b .nil hx ha hdb he hpl
end
def CDivW (_ j : Int) : Prop := 0 < j ∧ j < 2 ^ 64
theorem zac4 {X : Cx} : OpR X (binaryOp .FloorDiv) (rI CDivW fun i j => .int (i / j)) := opI fun i j _ _ _ _ _ hc q => by
 have h1 : (0 : Int) < j := hc.1
 have h2 : j < 2 ^ 64 := hc.2
 have h3 : j.natAbs.log2 < 64 := (Nat.log2_lt (by omega)).mpr (by omega)
 exact floordiv_int (by omega) (by rw [Int.fdiv_eq_ediv_of_nonneg i (by omega)]; exact q) (.inl (PyProof.noPylong_of_log2 (by omega)))
def Ch (W : List Addr) (H H' : Hp) : Prop := ∀ b o, H b = some o → b ∉ W → H' b = some o
theorem Ch.refl (W : List Addr) (H : Hp) : Ch W H H := fun _ _ h _ => h
theorem Ch.trans {W : List Addr} {H H1 H2 : Hp} (a : Ch W H H1) (b : Ch W H1 H2) : Ch W H H2 := fun c o h n => b c o (a c o h n) n
theorem Ch.get {W : List Addr} {H H' : Hp} {b : Addr} {o : HO} (c : Ch W H H') (h : H b = some o) (n : b ∉ W) : H' b = some o := c b o h n
theorem Ch.mono {W W' : List Addr} {H H' : Hp} (c : Ch W H H') (h : ∀ b ∈ W, b ∈ W') : Ch W' H H' := fun b o q n => c b o q fun z => n (h b z)
theorem Ch.wk {W : List Addr} {H H' : Hp} (c : Ch [] H H') : Ch W H H' := c.mono fun b h => nomatch h
theorem Ch.new {W : List Addr} {H : Hp} {p : Addr} (h : H p = none) (o : HO) : Ch W H (upd H p o) := fun b u q _ => by rw [zaaw (zaao q h)]; exact q
theorem Ch.put {H : Hp} {p : Addr} {o : HO} : Ch [p] H (upd H p o) := fun b u q n => by rw [zaaw (fun z => n (by simp [z]))]; exact q
def Scr (K : PySem.W.Frag) (H : Hp) (a : Addr) (ns : List Int) : Prop :=
 ns.length ≤ 63 ∧ ((∃ o, H a = some (.frz o (.lst (ns.map V.int)))) ∨
  ∃ (o : Obj) (its : Array Value) (n : Nat), K.lookup a = some o ∧ o.cls = .type "list" ∧ o.dict = none ∧ o.data = .seq its n ∧ its.size ≤ sizeLine ∧ Vals (ns.map V.int) its.toList)
theorem Scr.sq {K : PySem.W.Frag} {H : Hp} {a : Addr} {ns : List Int} (S : Scr K H a ns) : SqL K H a (ns.map V.int) := by
 rcases S.2 with ⟨o, h⟩ | h
 ·exact .inl (.inr ⟨o, h⟩)
 ·exact .inr h
theorem Scr.ch {K : PySem.W.Frag} {H H' : Hp} {a b : Addr} {ns : List Int} {xs : List V} (S : Scr K H a ns) (hb : H b = some (.lst xs)) (c : Ch [b] H H') : Scr K H' a ns := by
 refine ⟨S.1, ?_⟩
 rcases S.2 with ⟨o, h⟩ | h
 ·exact .inl ⟨o, c.get h (by
   intro z
   have e : a = b := by simpa using z
   subst e
   rw [h] at hb
   cases hb)⟩
 ·exact .inr h
theorem Scr.same {K : PySem.W.Frag} {H H' : Hp} {a : Addr} {ns : List Int} (S : Scr K H a ns) (c : Ch [] H H') : Scr K H' a ns := by
 refine ⟨S.1, ?_⟩
 rcases S.2 with ⟨o, h⟩ | h
 ·exact .inl ⟨o, c.get h (by simp)⟩
 ·exact .inr h
theorem Scr.of {K : PySem.W.Frag} {H : Hp} {a : Addr} {ns : List Int} (h : SqL K H a (ns.map V.int)) (hl : ns.length ≤ 63) (hO : Only H) : Scr K H a ns := by
 refine ⟨hl, ?_⟩
 rcases h with (h | ⟨o, h⟩) | h
 ·rcases hO a with z | ⟨o, xs, z⟩
  ·rw [h] at z; cases z
  ·rw [h] at z; cases z
 ·exact .inl ⟨o, h⟩
 ·exact .inr h
theorem zabq {H : Hp} {p q : Addr} {o u : HO} (hq : H q = none) (h : H p = some o) : upd H q u p = some o := by rw [zaaw (zaao h hq)]; exact h
theorem zabg {H : Hp} {p q : Addr} {o u : HO} (n : p ≠ q) (h : H p = some o) : upd H q u p = some o := by rw [zaaw n]; exact h
structure Loop (J : It) (g : TG) (tb : TS) (D : Ends) (σ : St) (H : Hp) : Prop where
 ex : ∃ W : Nat → Nat → St → Hp → Prop, (∃ m, W 0 m σ H) ∧ ∀ i m σ H, W i m σ H →
  (J.stop i H ∧ D.nx σ H) ∨ (J.go i H ∧ ∃ N : St → Hp → Prop, (∀ σ' H', N σ' H' → ∃ m', m' < m ∧ W (i + 1) m' σ' H') ∧ ∀ x H', J.yld i H x H' → g x σ H' fun σ2 H2 => tb { D with nx := N, ct := N, bk := D.nx } σ2 H2)
def tLoop (wi : TI) (g : TG) (tb : TS) : TS := fun D σ H => wi σ H fun J H1 => Loop J g tb D σ H1
theorem zart {X : Cx} {tg iter : Expr} {body : List Stmt} {wi : TI} {g : TG} {tb : TS} {pos : Pos} (hp : PassesOwn (model X.prog X.w) X.A X.env X.xe) (hc : X.calm = true) (hi : PI X tg iter wi) (hg : PG X tg g) (hb : PSs X body tb)
  (hs : ∀ x, foldedSetIterable iter X.env x = pure x := by intro _; rfl) : PS X (.For tg iter body [] pos) (tLoop wi g tb) := by
 have hi' : PI X tg iter (fun σ H R => ∃ R0 : It → Hp → Prop, wi σ H R0 ∧ ∀ J H1, R0 J H1 → R J H1) := by
  intro pins s σ H R I ⟨R0, h, m⟩
  refine thn (hi pins s σ H _ I h) fun v s1 h1 => thn h1 fun itv s2 h2 => ?_
  obtain ⟨it, fp, tn, J, H2, e, I2, T, st2, f2, r⟩ := h2
  exact ⟨it, fp, tn, J, H2, e, I2, T, st2, f2, m _ _ r⟩
 intro pins s σ H D I h
 exact zatr hp hc hi' hg hb hs pins s σ H D I ⟨_, h, fun J H1 l => l.ex⟩
theorem zadb {K : PySem.W.Frag} {a : Addr} {xs : List V} {g : TG} {tb : TS} {D : Ends} {σ : St} {H : Hp} (Pv : Nat → St → Hp → Prop) (h0 : Pv 0 σ H) (hl : ∀ i σ H, i ≤ xs.length → Pv i σ H → SqL K H a xs)
  (hs : ∀ i x σ H, xs[i]? = some x → Pv i σ H → g x σ H fun σ2 H2 => tb { D with nx := Pv (i + 1), ct := Pv (i + 1), bk := D.nx } σ2 H2) (hd : ∀ σ H, Pv xs.length σ H → D.nx σ H) : Loop (Itl K a) g tb D σ H := ⟨zao4 Pv h0 hl hs hd⟩
theorem zacl {lo : Int} {n : Nat} {g : TG} {tb : TS} {D : Ends} {σ : St} {H : Hp} (Pv : Nat → St → Hp → Prop) (h0 : Pv 0 σ H)
  (hs : ∀ i σ H, i < n → Pv i σ H → g (.int (lo + i)) σ H fun σ2 H2 => tb { D with nx := Pv (i + 1), ct := Pv (i + 1), bk := D.nx } σ2 H2) (hd : ∀ σ H, Pv n σ H → D.nx σ H) : Loop (Itr lo n) g tb D σ H := ⟨zalf Pv h0 hs hd⟩
structure Cut (t u : TS) (D : Ends) (σ : St) (H : Hp) : Prop where
 ex : ∃ P : St → Hp → Prop, t { D with nx := P } σ H ∧ ∀ σ' H', P σ' H' → u D σ' H'
def tCut (t u : TS) : TS := fun D σ H => Cut t u D σ H
theorem zaru {X : Cx} {st : Stmt} {rest : List Stmt} {t u : TS} (h1 : PS X st t) (h2 : PSs X rest u) : PSs X (st :: rest) (tCut t u) := by
 intro pins s σ H D I h
 obtain ⟨P, a, b⟩ := h.ex
 have h1' : PS X st (fun D' σ' H' => ∃ P : St → Hp → Prop, t { D' with nx := P } σ' H' ∧ ∀ σ2 H2, P σ2 H2 → D'.nx σ2 H2) := by
  intro pins s σ H D I ⟨P, a, b⟩
  refine thn (h1 pins s σ H _ I a) fun f s' q => ?_
  cases f with
  | next => obtain ⟨σ7, H7, I7, n7⟩ := q; exact ⟨σ7, H7, I7, b _ _ n7⟩
  | cont => exact q
  | brk => exact q
  | ret v => exact q
 exact zajp h1' h2 pins s σ H D I ⟨P, a, b⟩
theorem zaeu {t u : TS} {D : Ends} {σ : St} {H : Hp} (P : St → Hp → Prop) (h1 : t { D with nx := P } σ H) (h2 : ∀ σ' H', P σ' H' → u D σ' H') : Cut t u D σ H := ⟨P, h1, h2⟩
theorem zajx {ns : List Int} {i : Int} (h0 : 0 ≤ i) (h1 : i < (ns.length : Int)) : ∃ n : Int, atI (ns.map V.int) i = some (.int n) := by
 have hk : i.toNat < ns.length := by omega
 have ek : i = ((i.toNat : Nat) : Int) := by omega
 have q : atI (ns.map V.int) ((i.toNat : Nat) : Int) = some (.int ns[i.toNat]) := zaec (by rw [List.getElem?_map, List.getElem?_eq_getElem hk]; rfl)
 rw [← ek] at q
 exact ⟨_, q⟩
end L2

namespace L2
open PySem PySem.Spec PyProof.Rows
structure Atx {α : Type} (xs : List α) (i : Int) (R : α → Prop) : Prop where
 ex : ∃ v, atI xs i = some v ∧ R v
theorem Atx.of {α : Type} {xs : List α} {i : Int} {v : α} {R : α → Prop} (h : atI xs i = some v) (r : R v) : Atx xs i R := ⟨v, h, r⟩
section
variable {X : Cx}
theorem IxR.imp {r r' : R2} (h : IxR X r) (f : ∀ x y H Q, r' x y H Q → r x y H Q) : IxR X r' := fun value slice pins s σ H x y v u Q I rx ry q hs => h value slice pins s σ H x y v u Q I rx ry (f _ _ _ _ q) hs
def aIxL (K : PySem.W.Frag) : R2 := fun x y H Q => ∃ p xs i, x = .ref p ∧ y = .int i ∧ SqL K H p xs ∧ Atx xs i fun v => Q v H
def aIxT (K : PySem.W.Frag) : R2 := fun x y H Q => ∃ p xs i, x = .ref p ∧ y = .int i ∧ SqT K H p xs ∧ Atx xs i fun v => Q v H
def aIxS : R2 := fun x y H Q => ∃ z i, x = .str z ∧ y = .int i ∧ z.length ≤ sizeLine ∧ Atx z.cps.toList i fun c => Q (.str ⟨#[c]⟩) H
theorem zaa4 : IxR X (aIxL X.K) := zark.imp fun x y H Q ⟨p, xs, i, e1, e2, h, a⟩ => let ⟨v, hv, q⟩ := a.ex; ⟨p, xs, i, v, e1, e2, h, hv, q⟩
theorem zaa2 : IxR X (aIxT X.K) := zat2.imp fun x y H Q ⟨p, xs, i, e1, e2, h, a⟩ => let ⟨v, hv, q⟩ := a.ex; ⟨p, xs, i, v, e1, e2, h, hv, q⟩
end
end L2
namespace L2
open PySem
section
variable {es : List Expr} {env : Env}
theorem zaac {x pos} : starEach (.Name x pos :: es) env = (false, eval (.Name x pos) env) :: starEach es env := rfl
theorem zaaq {c k pos} : starEach (.Constant c k pos :: es) env = (false, eval (.Constant c k pos) env) :: starEach es env := rfl
theorem zacb {a o b pos} : starEach (.BinOp a o b pos :: es) env = (false, eval (.BinOp a o b pos) env) :: starEach es env := rfl
theorem zako {a o pos} : starEach (.UnaryOp o a pos :: es) env = (false, eval (.UnaryOp o a pos) env) :: starEach es env := rfl
theorem zabf {a o b pos} : starEach (.Call a o b pos :: es) env = (false, eval (.Call a o b pos) env) :: starEach es env := rfl
theorem zapk {a k pos} : starEach (.Tuple a k pos :: es) env = (false, eval (.Tuple a k pos) env) :: starEach es env := rfl
theorem zarv {a pos} : starEach (.List a pos :: es) env = (false, eval (.List a pos) env) :: starEach es env := rfl
theorem zaau {a b pos} : starEach (.Subscript a b pos :: es) env = (false, eval (.Subscript a b pos) env) :: starEach es env := rfl
theorem zakp {a b c pos} : starEach (.Compare a b c pos :: es) env = (false, eval (.Compare a b c pos) env) :: starEach es env := rfl
theorem zacd {a b pos} : starEach (.Attribute a b pos :: es) env = (false, eval (.Attribute a b pos) env) :: starEach es env := rfl
theorem zaa0 {a b c pos} : starEach (.ListComp a b c pos :: es) env = (false, eval (.ListComp a b c pos) env) :: starEach es env := rfl
end
end L2
namespace L2
open PySem
theorem Ch.own {W : List Addr} {H H' : Hp} {p : Addr} {o : HO} (n : H p = none) (c : Ch W H H') : Ch W H (upd H' p o) := fun b u h k => by
 rw [zaaw (zaao h n)]
 exact c b u h k
end L2
namespace L2
open PySem
theorem Atx.head {α : Type} {x : α} {xs : List α} {R : α → Prop} (r : R x) : Atx (x :: xs) 0 R := ⟨x, zaec (j := 0) rfl, r⟩
end L2

namespace L2
open PySem PySem.Spec PyProof.Rows
inductive SK where
 | list | tuple
def SIt (k : SK) (h : Heap) (it l : Addr) (i : Nat) : Prop := match k with
 | .list => h.IsListIter it l i
 | .tuple => h.IsTupleIter it l i
def SIs (k : SK) (h : Heap) (l : Addr) (items : Array Value) : Prop := match k with
 | .list => h.IsList l items
 | .tuple => h.IsTuple l items
def Sq (k : SK) (K : PySem.W.Frag) (H : Hp) (a : Addr) (xs : List V) : Prop := match k with
 | .list => SqL K H a xs
 | .tuple => SqT K H a xs
theorem SIt.at {k : SK} {h h' : Heap} {a l i} (x : SIt k h a l i) (e : ∀ o, h.get? a = some o → h'.get? a = some o) : SIt k h' a l i := by
 cases k with
 | list => exact Heap.IsListIter.at x e
 | tuple => exact Heap.IsTupleIter.at x e
theorem SIt.obj {k : SK} {h : Heap} {a l i} (x : SIt k h a l i) : ∃ o, h.get? a = some o ∧ ∀ v, o.data ≠ .cell v := by
 cases k with
 | list => obtain ⟨o, e, c, d⟩ := (show h.IsListIter a l i from x); exact ⟨o, e, fun v z => by rw [d] at z; cases z⟩
 | tuple => obtain ⟨o, e, c, d⟩ := (show h.IsTupleIter a l i from x); exact ⟨o, e, fun v z => by rw [d] at z; cases z⟩
theorem SIs.at {k : SK} {h h' : Heap} {a items} (x : SIs k h a items) (e : ∀ o, h.get? a = some o → h'.get? a = some o) : SIs k h' a items := by
 cases k with
 | list => exact Heap.IsList.at x e
 | tuple => obtain ⟨o, ho, r⟩ := (show h.IsTuple a items from x); exact ⟨o, e _ ho, r⟩
theorem SIs.lt {k : SK} {h : Heap} {a items} (x : SIs k h a items) : a < h.objs.size := by
 cases k with
 | list => obtain ⟨_, e, _⟩ := (show h.IsList a items from x); exact Heap.lt_size e
 | tuple => obtain ⟨_, e, _⟩ := (show h.IsTuple a items from x); exact Heap.lt_size e
section
variable {prog : Program} {w : World} {A : Around} {E : Value → Shared → Prop} {s : Shared}
theorem zaed {it l : Addr} {i : Nat} {items} {x : Value} {Q : Value → Shared → Prop} (hit : s.heap.IsTupleIter it l i)
  (hl : s.heap.IsTuple l items) (hx : items[i]? = some x)
  (hQ : ∀ h', h'.IsTupleIter it l (i + 1) → Heap.SameBut it s.heap h' → Q x { s with heap := h' }) :
  wpAny (model prog w) A (Builtin.SmallTypes.nextOf (.ref it)) Q E s := by
 obtain ⟨o, ho, hc, hd⟩ := id hit
 obtain ⟨ol, hol, _, nl, hdl⟩ := hl
 unfold Builtin.SmallTypes.nextOf
 refine wpAny_bind (wpAny_callSpecial?_slot (name := Str.ofString "__next__") hit.typeIs F.slot_tuple_iterator_next
  (wpAny_call_entry F.slot_tuple_iterator_next hit.typeIs F.entry_tuple_iterator_next ?_ (F.args_tuple_iterator_next_1 _)))
 show wpAny _ _ (field (.ref it) 0 >>= _) _ _ s
 refine wpAny_bind (wpAny_field ho hd (x := .ref l) rfl ?_)
 show wpAny _ _ (if (Value.ref l == Value.none) = true then _ else _) _ _ s
 rw [if_neg (show ¬ ((Value.ref l == Value.none) = true) from Bool.false_ne_true)]
 show wpAny _ _ (field (.ref it) 1 >>= _) _ _ s
 refine wpAny_bind (wpAny_field ho hd (x := .int i 0) rfl ?_)
 show wpAny _ _ (seqItems? (.ref l) >>= _) _ _ s
 refine wpAny_bind (wpAny_seqItems hol hdl ?_)
 simp only [Int.toNat_natCast, hx]
 refine wpAny_bind (wpAny_setField ho hd (by simp) (wpAny_pure ⟨x, rfl, wpAny_pure (hQ _ ?_ (Heap.SameBut.update ..))⟩))
 exact ⟨_, Heap.get?_update_self _ ho (Obj.isFreed_of_fields (Obj.data_mapFields hd _)), (Obj.cls_mapFields ..).trans hc, by
  rw [Obj.data_mapFields hd]; simp [rawInt]⟩
theorem zaey {it l : Addr} {i : Nat} {items} {Q : Value → Shared → Prop} (hh : A.handled = none)
  (hit : s.heap.IsTupleIter it l i) (hl : s.heap.IsTuple l items) (hx : items[i]? = none)
  (hE : ∀ h' e, Heap.ExtBut it s.heap h' → (∃ o, h'.get? e = some o ∧ o.cls = .type "StopIteration") → E (.ref e) { s with heap := h' }) :
  wpAny (model prog w) A (Builtin.SmallTypes.nextOf (.ref it)) Q E s := by
 obtain ⟨o, ho, hc, hd⟩ := id hit
 obtain ⟨ol, hol, _, nl, hdl⟩ := hl
 unfold Builtin.SmallTypes.nextOf
 refine wpAny_bind (wpAny_callSpecial?_slot (name := Str.ofString "__next__") hit.typeIs F.slot_tuple_iterator_next
  (wpAny_call_entry F.slot_tuple_iterator_next hit.typeIs F.entry_tuple_iterator_next ?_ (F.args_tuple_iterator_next_1 _)))
 show wpAny _ _ (field (.ref it) 0 >>= _) _ _ s
 refine wpAny_bind (wpAny_field ho hd (x := .ref l) rfl ?_)
 show wpAny _ _ (if (Value.ref l == Value.none) = true then _ else _) _ _ s
 rw [if_neg (show ¬ ((Value.ref l == Value.none) = true) from Bool.false_ne_true)]
 show wpAny _ _ (field (.ref it) 1 >>= _) _ _ s
 refine wpAny_bind (wpAny_field ho hd (x := .int i 0) rfl ?_)
 show wpAny _ _ (seqItems? (.ref l) >>= _) _ _ s
 refine wpAny_bind (wpAny_seqItems hol hdl ?_)
 simp only [Int.toNat_natCast, hx]
 refine wpAny_bind (wpAny_rule (wpAny_bind (wpAny_setField ho hd (by simp) ?_)))
 show wpAny _ _ (newExc (.type "StopIteration") [] >>= _) _ _ _
 refine wpAny_bind ?_
 simp only [newExc, newTuple]
 refine wpAny_bind (wpAny_newObj_type ?_ (by size_fits))
 refine wpAny_bind (m := firstArgMember _ _) (wpAny_of_eq (a := Value.none) (by first | rfl | (simp only [firstArgMember]; rfl)) ?_)
 refine wpAny_newObj_type ?_ (by size_fits)
 simp only [raiseNew]
 refine wpAny_bind (wpAny_handled ?_)
 first | rw [show A.in1.handled = none from hh] | rw [hh]
 refine wpAny_bind (wpAny_pure (wpAny_throw ?_))
 exact hE _ _ (((Heap.SameBut.update ..).extBut.push _).push _) ⟨_, Heap.get?_push_size _ rfl, rfl⟩
theorem zac5 {k : SK} {it l : Addr} {i : Nat} {items} {x : Value} {Q : Value → Shared → Prop} (hit : SIt k s.heap it l i) (hl : SIs k s.heap l items) (hx : items[i]? = some x)
  (hQ : ∀ h', SIt k h' it l (i + 1) → Heap.SameBut it s.heap h' → Q x { s with heap := h' }) : wpAny (model prog w) A (Builtin.SmallTypes.nextOf (.ref it)) Q E s := by
 cases k with
 | list => exact wpAny_nextOf_list_item hit hl hx hQ
 | tuple => exact zaed hit hl hx hQ
theorem zaee {k : SK} {it l : Addr} {i : Nat} {items} {Q : Value → Shared → Prop} (hh : A.handled = none) (hit : SIt k s.heap it l i) (hl : SIs k s.heap l items) (hx : items[i]? = none)
  (hE : ∀ h' e, Heap.ExtBut it s.heap h' → (∃ o, h'.get? e = some o ∧ o.cls = .type "StopIteration") → E (.ref e) { s with heap := h' }) :
  wpAny (model prog w) A (Builtin.SmallTypes.nextOf (.ref it)) Q E s := by
 cases k with
 | list => exact wpAny_nextOf_list_end hh hit hl hx hE
 | tuple => exact zaey hh hit hl hx hE
theorem SIt.ext {k : SK} {h h' : Heap} {a b l i} (x : SIt k h a l i) (hs : Heap.ExtBut b h h') (hab : a ≠ b) : SIt k h' a l i := x.at fun o e => hs _ _ hab e
theorem SIs.ext {k : SK} {h h' : Heap} {a b items} (x : SIs k h a items) (hs : Heap.ExtBut b h h') (hab : a ≠ b) : SIs k h' a items := x.at fun o e => hs _ _ hab e
theorem zaly {k1 k2 : SK} {z TI TO i1 i2 l1 l2 : Addr} {n1 n2 : Nat} {xs ys : Array Value} {x y a b : Value} {Q : Value → Shared → Prop} (D : ZipApart z TI TO i1 i2 l1 l2)
  (hz : IsZip s.heap z TI TO .none) (hTI : IsPair s.heap TI (.ref i1) (.ref i2)) (hTO : IsPair s.heap TO a b)
  (h1 : SIt k1 s.heap i1 l1 n1) (h2 : SIt k2 s.heap i2 l2 n2) (hl1 : SIs k1 s.heap l1 xs) (hl2 : SIs k2 s.heap l2 ys) (hx : xs[n1]? = some x) (hy : ys[n2]? = some y)
  (hQ : ∀ h', IsZip h' z TI TO (rawInt s.heap.objs.size) → IsPair h' TO x y → SIt k1 h' i1 l1 (n1 + 1) → SIt k2 h' i2 l2 (n2 + 1) → IsPair h' s.heap.objs.size x y → h'.objs.size = s.heap.objs.size + 1 →
   (∀ c o, c ≠ z → c ≠ TO → c ≠ i1 → c ≠ i2 → s.heap.get? c = some o → h'.get? c = some o) → Q (.ref s.heap.objs.size) { s with heap := h' }) :
  wpAny (model prog w) A (Builtin.«zip.__next__» ⟨[.ref z], []⟩) (fun fin s' => ∃ v, fin = .done (.ret v) ∧ Q v s') E s := by
 show wpAny _ _ (field (.ref z) 2 >>= _) _ _ _
 refine wpAny_bind (wpAny_field hz rfl (x := .bool false) rfl ?_)
 show wpAny _ _ (field (.ref z) 3 >>= _) _ _ _
 refine wpAny_bind (wpAny_field hz rfl (x := .ref TI) rfl ?_)
 refine wpAny_bind (wpAny_seqItems hTI rfl ?_)
 show wpAny _ _ (Builtin.SmallTypes.ownedTupleIsFree (.ref z) >>= _) _ _ _
 refine wpAny_bind ?_
 unfold Builtin.SmallTypes.ownedTupleIsFree
 refine wpAny_bind (wpAny_field hz rfl (x := .none) rfl (wpAny_pure ?_))
 simp only [if_true]
 refine wpAny_bind (wpAny_rule ?_)
 refine wpAny_bind (wpAny_field hz rfl (x := .ref TO) rfl ?_)
 refine wpAny_bind (wpAny_setField_rec hz (by simp) fun h₁ hz₁ hs₁ => ?_)
 replace hz₁ : IsZip h₁ z TI TO .ellipsis := hz₁
 refine wpAny_bind ?_
 simp only [List.zipIdx_cons, List.zipIdx_nil, List.forIn_cons, List.forIn_nil]
 refine wpAny_bind (wpAny_bind (wpAny_onRaise ?_))
 show wpAny _ _ (Builtin.SmallTypes.nextOf (.ref i1) >>= _) _ _ _
 refine wpAny_bind (zac5 (h1.ext hs₁.extBut D.i1z) (hl1.ext hs₁.extBut D.l1z) hx fun h₂ h1₂ hs₂ => wpAny_pure ?_)
 have hTO₂ : IsPair h₂ TO a b := hs₂.extBut _ _ D.TOi1 (hs₁.extBut _ _ D.TOz hTO)
 refine wpAny_bind (wpAny_seqItems hTO₂ rfl ?_)
 refine wpAny_bind (wpAny_updateSeq_pair hTO₂ fun h₃ hTO₃ hs₃ => ?_)
 replace hTO₃ : IsPair h₃ TO x b := hTO₃
 refine wpAny_bind (wpAny_letGo (wpAny_pure ?_))
 refine wpAny_bind (wpAny_bind (wpAny_onRaise ?_))
 show wpAny _ _ (Builtin.SmallTypes.nextOf (.ref i2) >>= _) _ _ _
 refine wpAny_bind (zac5 (((h2.ext hs₁.extBut D.i2z).ext hs₂.extBut D.i12.symm).ext hs₃.extBut D.TOi2.symm)
  (((hl2.ext hs₁.extBut D.l2z).ext hs₂.extBut D.l2i1).ext hs₃.extBut D.l2TO) hy fun h₄ h2₄ hs₄ => wpAny_pure ?_)
 have hTO₄ : IsPair h₄ TO x b := hs₄.extBut _ _ D.TOi2 hTO₃
 refine wpAny_bind (wpAny_seqItems hTO₄ rfl ?_)
 refine wpAny_bind (wpAny_updateSeq_pair hTO₄ fun h₅ hTO₅ hs₅ => ?_)
 replace hTO₅ : IsPair h₅ TO x y := hTO₅
 refine wpAny_bind (wpAny_letGo (wpAny_pure (wpAny_pure ?_)))
 refine wpAny_bind (wpAny_seqItems hTO₅ rfl ?_)
 refine wpAny_bind (wpAny_newTuple ?_)
 have hsz : h₅.objs.size = s.heap.objs.size := by rw [hs₅.1, hs₄.1, hs₃.1, hs₂.1, hs₁.1]
 have hz₅ : IsZip h₅ z TI TO .ellipsis := hs₅.extBut _ _ D.TOz.symm (hs₄.extBut _ _ D.i2z.symm (hs₃.extBut _ _ D.TOz.symm (hs₂.extBut _ _ D.i1z.symm hz₁)))
 have hk₅ : ∀ c o, c ≠ z → c ≠ TO → c ≠ i1 → c ≠ i2 → s.heap.get? c = some o → h₅.get? c = some o := fun c o c1 c2 c3 c4 e =>
  hs₅.extBut _ _ c2 (hs₄.extBut _ _ c4 (hs₃.extBut _ _ c2 (hs₂.extBut _ _ c3 (hs₁.extBut _ _ c1 e))))
 have h1₅ : SIt k1 h₅ i1 l1 (n1 + 1) := ((h1₂.ext hs₃.extBut D.TOi1.symm).ext hs₄.extBut D.i12).ext hs₅.extBut D.TOi1.symm
 have h2₅ : SIt k2 h₅ i2 l2 (n2 + 1) := h2₄.ext hs₅.extBut D.TOi2.symm
 have hzlt : z < h₅.objs.size := Heap.lt_size hz₅
 show wpAny _ _ (Builtin.SmallTypes.ownedTupleHandOut (.ref z) (.ref h₅.objs.size) >>= _) _ _ _
 refine wpAny_bind ?_
 unfold Builtin.SmallTypes.ownedTupleHandOut
 have hz₆ : IsZip (h₅.push { cls := .type "tuple", data := .seq #[x, y] }) z TI TO .ellipsis := Heap.get?_push_of_some _ hz₅
 refine wpAny_bind (wpAny_setField_rec hz₆ (by simp) fun h₇ hz₇ hs₇ => ?_)
 replace hz₇ : IsZip h₇ z TI TO (rawInt h₅.objs.size) := hz₇
 refine wpAny_setField_rec hz₇ (by simp) fun h₈ hz₈ hs₈ => ?_
 replace hz₈ : IsZip h₈ z TI TO (rawInt h₅.objs.size) := hz₈
 have up : ∀ c o, c ≠ z → h₅.get? c = some o → h₈.get? c = some o := fun c o c1 e => hs₈.extBut _ _ c1 (hs₇.extBut _ _ c1 (Heap.get?_push_of_some _ e))
 have hT₈ : IsPair h₈ h₅.objs.size x y := hs₈.extBut _ _ (Nat.ne_of_gt hzlt) (hs₇.extBut _ _ (Nat.ne_of_gt hzlt) (Heap.get?_push_size _ rfl))
 have hz8 : h₈.objs.size = h₅.objs.size + 1 := by rw [hs₈.1, hs₇.1, Heap.size_push]
 rw [hsz] at hz₈ hT₈ hz8
 refine wpAny_pure ⟨_, rfl, ?_⟩
 show Q (.ref h₅.objs.size) _
 rw [hsz]
 exact hQ h₈ hz₈ (up _ _ D.TOz hTO₅) (h1₅.at fun o e => up _ o D.i1z e) (h2₅.at fun o e => up _ o D.i2z e) hT₈ hz8 fun c o c1 c2 c3 c4 e => up c o c1 (hk₅ c o c1 c2 c3 c4 e)
theorem zapl {k1 k2 : SK} {z TI TO i1 i2 l1 l2 : Addr} {n1 n2 : Nat} {xs ys : Array Value} {a b : Value} {Q : Fin → Shared → Prop} (hh : A.handled = none) (D : ZipApart z TI TO i1 i2 l1 l2)
  (hz : IsZip s.heap z TI TO .none) (hTI : IsPair s.heap TI (.ref i1) (.ref i2)) (hTO : IsPair s.heap TO a b)
  (h1 : SIt k1 s.heap i1 l1 n1) (h2 : SIt k2 s.heap i2 l2 n2) (hl1 : SIs k1 s.heap l1 xs) (hl2 : SIs k2 s.heap l2 ys) (hend : xs[n1]? = none ∨ ys[n2]? = none)
  (hE : ∀ h' e, (∀ c o, c ≠ z → c ≠ TO → c ≠ i1 → c ≠ i2 → s.heap.get? c = some o → h'.get? c = some o) → (∃ o, h'.get? e = some o ∧ o.cls = .type "StopIteration") → E (.ref e) { s with heap := h' }) :
  wpAny (model prog w) A (Builtin.«zip.__next__» ⟨[.ref z], []⟩) Q E s := by
 show wpAny _ _ (field (.ref z) 2 >>= _) _ _ _
 refine wpAny_bind (wpAny_field hz rfl (x := .bool false) rfl ?_)
 show wpAny _ _ (field (.ref z) 3 >>= _) _ _ _
 refine wpAny_bind (wpAny_field hz rfl (x := .ref TI) rfl ?_)
 refine wpAny_bind (wpAny_seqItems hTI rfl ?_)
 show wpAny _ _ (Builtin.SmallTypes.ownedTupleIsFree (.ref z) >>= _) _ _ _
 refine wpAny_bind ?_
 unfold Builtin.SmallTypes.ownedTupleIsFree
 refine wpAny_bind (wpAny_field hz rfl (x := .none) rfl (wpAny_pure ?_))
 simp only [if_true]
 refine wpAny_bind (wpAny_rule ?_)
 refine wpAny_bind (wpAny_field hz rfl (x := .ref TO) rfl ?_)
 refine wpAny_bind (wpAny_setField_rec hz (by simp) fun h₁ hz₁ hs₁ => ?_)
 replace hz₁ : IsZip h₁ z TI TO .ellipsis := hz₁
 refine wpAny_bind ?_
 simp only [List.zipIdx_cons, List.zipIdx_nil, List.forIn_cons, List.forIn_nil]
 refine wpAny_bind (wpAny_bind (wpAny_onRaise ?_))
 show wpAny _ _ (Builtin.SmallTypes.nextOf (.ref i1) >>= _) _ _ _
 cases hx : xs[n1]? with
 | none =>
  refine wpAny_bind (zaee hh (h1.ext hs₁.extBut D.i1z) (hl1.ext hs₁.extBut D.l1z) hx fun h₂ e hs₂ he => ?_)
  obtain ⟨oe, hoe, hce⟩ := he
  have hz₂ : IsZip h₂ z TI TO .ellipsis := hs₂ _ _ D.i1z.symm hz₁
  have hez : e ≠ z := fun x => by subst x; rw [hz₂] at hoe; cases hoe; simp at hce
  refine wpAny_setField_rec hz₂ (by simp) fun h₃ _ hs₃ => hE h₃ e (fun c o c1 _ c3 _ x => hs₃.extBut _ _ c1 (hs₂ _ _ c3 (hs₁.extBut _ _ c1 x))) ⟨oe, hs₃.extBut _ _ hez hoe, hce⟩
 | some x =>
  have hy : ys[n2]? = none := by rcases hend with h | h; rw [hx] at h; cases h; exact h
  refine wpAny_bind (zac5 (h1.ext hs₁.extBut D.i1z) (hl1.ext hs₁.extBut D.l1z) hx fun h₂ h1₂ hs₂ => wpAny_pure ?_)
  have hTO₂ : IsPair h₂ TO a b := hs₂.extBut _ _ D.TOi1 (hs₁.extBut _ _ D.TOz hTO)
  refine wpAny_bind (wpAny_seqItems hTO₂ rfl ?_)
  refine wpAny_bind (wpAny_updateSeq_pair hTO₂ fun h₃ hTO₃ hs₃ => ?_)
  refine wpAny_bind (wpAny_letGo (wpAny_pure ?_))
  refine wpAny_bind (wpAny_bind (wpAny_onRaise ?_))
  show wpAny _ _ (Builtin.SmallTypes.nextOf (.ref i2) >>= _) _ _ _
  refine wpAny_bind (zaee hh (((h2.ext hs₁.extBut D.i2z).ext hs₂.extBut D.i12.symm).ext hs₃.extBut D.TOi2.symm)
   (((hl2.ext hs₁.extBut D.l2z).ext hs₂.extBut D.l2i1).ext hs₃.extBut D.l2TO) hy fun h₄ e hs₄ he => ?_)
  obtain ⟨oe, hoe, hce⟩ := he
  have hz₄ : IsZip h₄ z TI TO .ellipsis := hs₄ _ _ D.i2z.symm (hs₃.extBut _ _ D.TOz.symm (hs₂.extBut _ _ D.i1z.symm hz₁))
  have hez : e ≠ z := fun x => by subst x; rw [hz₄] at hoe; cases hoe; simp at hce
  refine wpAny_setField_rec hz₄ (by simp) fun h₅ _ hs₅ => hE h₅ e (fun c o c1 c2 c3 c4 x => hs₅.extBut _ _ c1 (hs₄ _ _ c4 (hs₃.extBut _ _ c2 (hs₂.extBut _ _ c3 (hs₁.extBut _ _ c1 x))))) ⟨oe, hs₅.extBut _ _ hez hoe, hce⟩
end
section
variable {X : Cx} {pins : List (Addr × Obj)} {σ : List (Option V)} {H H' : Hp} {s : Shared} {h' : Heap}
theorem Inv.turnedL {t' : Nat} {its : List Addr} (I : Inv X pins σ H s) (k : ∀ b o, b ∉ its → s.heap.get? b = some o → h'.get? b = some o) (hf : ∀ b ∈ its, FpOk X pins H b) : Inv X pins σ H { s with heap := h', toks := t' } := by
 have nit : ∀ b u, H b = some u → b ∉ its := fun b u e z => by rw [(hf b z).1] at e; cases e
 refine I.step (g' := s.gens) (d' := s.drawn) (ch := its) (fun b hb => ?_) (fun b o _ _ hc e _ => k b o hc e) (fun b o _ _ hc e _ => ⟨o.slots, k b o hc e⟩) (fun _ _ _ _ n => n)
  (fun b o hc e => ⟨o, k b o hc e⟩) (fun _ _ e => e) (fun _ _ _ e => e) (fun b ps e => ⟨#[], by rw [e]; simp⟩) (fun m hm => ?_) (fun b u e => ?_) I.bare
 ·obtain ⟨f0, f1, f2, f3, f4, f5⟩ := hf b hb
  exact ⟨f3, f1, f4, f5⟩
 ·obtain ⟨o, es, ep, ho, r⟩ := hm
  exact ⟨o, es, ep, k _ o (fun z => (hf _ z).2.1 rfl) ho, r⟩
 ·refine (I.hok b u e).stay (fun c v hc q => k c v ?_ q) (fun _ q => q) fun _ _ q => q
  rcases hc with z | z
  ·rw [z]; exact nit b u e
  ·exact nit c _ z
theorem Inv.turnedNew {t' : Nat} {its : List Addr} {T : Addr} {o : HO} (I : Inv X pins σ H s) (k : ∀ b ob, b ∉ its → s.heap.get? b = some ob → h'.get? b = some ob) (hf : ∀ b ∈ its, FpOk X pins H b)
  (hT : s.heap.objs.size ≤ T) (new : ObjOk X.prog X.w (upd H T o) h' T o) : Inv X pins σ (upd H T o) { s with heap := h', toks := t' } := by
 have nit : ∀ b u, H b = some u → b ∉ its := fun b u e z => by rw [(hf b z).1] at e; cases e
 have hn : H T = none := I.hok.fresh hT
 have neT : ∀ b ob, s.heap.get? b = some ob → b ≠ T := fun b ob e => Nat.ne_of_lt (Nat.lt_of_lt_of_le (Heap.lt_size e) hT)
 have up : ∀ b u, H b = some u → upd H T o b = some u := fun b u e => by rw [zaaw (zaao e hn)]; exact e
 refine I.step (g' := s.gens) (d' := s.drawn) (ch := its) (fun b hb => ?_) (fun b ob _ _ hc e _ => k b ob hc e) (fun b ob _ _ hc e _ => ⟨ob.slots, k b ob hc e⟩) (fun b ob _ e n => by rw [zaaw (neT b ob e)]; exact n)
  (fun b ob hc e => ⟨ob, k b ob hc e⟩) (fun b _ e => up b _ e) (fun b _ _ e => up b _ e) (fun b ps e => ⟨#[], by rw [up b _ e]; simp⟩) (fun m hm => ?_) (fun b u e => ?_) I.bare
 ·obtain ⟨f0, f1, f2, f3, f4, f5⟩ := hf b hb
  exact ⟨f3, f1, f4, f5⟩
 ·obtain ⟨ob, es, ep, ho, r⟩ := hm
  exact ⟨ob, es, ep, k _ ob (fun z => (hf _ z).2.1 rfl) ho, r⟩
 ·by_cases hb : b = T
  ·subst hb; rw [zaag] at e; cases e; exact new
  ·rw [zaaw hb] at e
   refine (I.hok b u e).stay (fun c v hc q => k c v ?_ q) (fun c q => up c _ q) fun c xs q => up c _ q
   rcases hc with z | z
   ·rw [z]; exact nit b u e
   ·exact nit c _ z
end
theorem Inv.sis {X : Cx} {pins : List (Addr × Obj)} {σ : St} {H : Hp} {s : Shared} {k : SK} {a : Addr} {xs : List V} (I : Inv X pins σ H s) (h : Sq k X.K H a xs) : ∃ its : List Value, Vals xs its ∧ SIs k s.heap a its.toArray := by
 cases k with
 | list => obtain ⟨its, r, p, _⟩ := I.list h; exact ⟨its, r, p.isList⟩
 | tuple => obtain ⟨its, r, p, _⟩ := I.tuple h; exact ⟨its, r, (show s.heap.IsTuple a its.toArray from p)⟩
theorem Inv.sq_inj {X : Cx} {pins : List (Addr × Obj)} {σ : St} {H : Hp} {s : Shared} {k : SK} {a : Addr} {xs ys : List V} (I : Inv X pins σ H s) (h : Sq k X.K H a xs) (h' : Sq k X.K H a ys) : xs = ys := by
 cases k with
 | list => exact I.list_inj h h'
 | tuple => exact I.tuple_inj h h'
def Itz (K : PySem.W.Frag) (k1 k2 : SK) (a b : Addr) : It :=
 ⟨fun i H => ∃ xs ys x y, Sq k1 K H a xs ∧ Sq k2 K H b ys ∧ xs[i]? = some x ∧ ys[i]? = some y,
  fun i H v H' => ∃ T, H T = none ∧ v = .ref T ∧ ∀ xs ys, Sq k1 K H a xs → Sq k2 K H b ys → ∃ x y, xs[i]? = some x ∧ ys[i]? = some y ∧ H' = upd H T (.tup [x, y]),
  fun i H => ∃ xs ys, Sq k1 K H a xs ∧ Sq k2 K H b ys ∧ (xs.length ≤ i ∨ ys.length ≤ i)⟩
theorem zapm {P : Program} {w : World} {K : PySem.W.Frag} {elts : List Expr} {kk : Nat} {tpos : Pos} {k1 k2 : SK} {z TI TO i1 i2 a b : Addr} (D : ZipApart z TI TO i1 i2 a b) :
  Turn P w K (.Tuple elts kk tpos) (Itz K k1 k2 a b) [z, TI, TO, i1, i2] z (fun i h => IsZip h z TI TO .none ∧ IsPair h TI (.ref i1) (.ref i2) ∧ (∃ c d, IsPair h TO c d) ∧ SIt k1 h i1 a i ∧ SIt k2 h i2 b i) where
 mem := by simp
 obj := fun i h st b hb => by
  obtain ⟨hz, hTI, ⟨c, d, hTO⟩, h1, h2⟩ := st
  simp only [List.mem_cons, List.not_mem_nil, or_false] at hb
  rcases hb with rfl | rfl | rfl | rfl | rfl
  ·exact ⟨_, hz, fun v q => nomatch q⟩
  ·exact ⟨_, hTI, fun v q => nomatch q⟩
  ·exact ⟨_, hTO, fun v q => nomatch q⟩
  ·exact h1.obj
  ·exact h2.obj
 keep := fun i h h' st k => by
  obtain ⟨hz, hTI, ⟨c, d, hTO⟩, h1, h2⟩ := st
  exact ⟨k _ (by simp) _ hz, k _ (by simp) _ hTI, ⟨c, d, k _ (by simp) _ hTO⟩, h1.at fun o e => k _ (by simp) o e, h2.at fun o e => k _ (by simp) o e⟩
 item := by
  intro X hP hw hK hc i pins s σ H E I hf st hg
  subst hP hw hK
  obtain ⟨hz, hTI, ⟨c, d, hTO⟩, h1, h2⟩ := st
  obtain ⟨xs, ys, x, y, q1, q2, hx, hy⟩ := hg
  obtain ⟨ix, rx, px⟩ := I.sis q1
  obtain ⟨iy, ry, py⟩ := I.sis q2
  obtain ⟨u, hu, ru⟩ := rx.get hx
  obtain ⟨v, hv, rv⟩ := ry.get hy
  have hT : s.TypeIs (.ref z) "zip" := ⟨_, hz, rfl⟩
  unfold pyNext
  refine wpAny_bind (wpAny_attempt (wpAny_callSpecial?_slot (name := Str.ofString "__next__") hT F.slot_zip_next
   (wpAny_call_entry F.slot_zip_next hT F.entry_zip_next
    (zaly D hz hTI hTO h1 h2 px py (x := u) (y := v) (by simpa using hu) (by simpa using hv) fun h' a1 a2 a3 a4 a5 a6 a7 => wpAny_pure ?_) (F.args_zip_next_1 _))))
  refine ⟨_, rfl, wpAny_letOwnedTupleGo_zip (s := { s with heap := h' }) a1 fun h'' b1 b2 => ?_⟩
  have zlt : z < s.heap.objs.size := Heap.lt_size hz
  have k2 : ∀ c o, c ∉ [z, TI, TO, i1, i2] → s.heap.get? c = some o → h''.get? c = some o := fun c o hc e => by
   simp only [List.mem_cons, List.not_mem_nil, or_false, not_or] at hc
   exact b2.extBut _ _ hc.1 (a7 c o hc.1 hc.2.2.1 hc.2.2.2.1 hc.2.2.2.2 e)
  have hT2 : IsPair h'' s.heap.objs.size u v := b2.extBut _ _ (Nat.ne_of_gt zlt) a5
  refine ⟨.ref s.heap.objs.size, upd H s.heap.objs.size (.tup [x, y]), I.turnedNew (t' := s.toks) (o := .tup [x, y]) k2 hf (Nat.le_refl _) ⟨by show 2 ≤ sizeLine; decide, [u, v], .cons ru (.cons rv .nil), ⟨_, hT2, rfl, _, rfl⟩⟩, rfl,
   ⟨_, I.hok.fresh (Nat.le_refl _), rfl, fun xs' ys' e1 e2 => ?_⟩, ⟨b1, ?_, ⟨_, _, b2.extBut _ _ D.TOz a2⟩, a3.at fun o e => b2.extBut _ _ D.i1z e, a4.at fun o e => b2.extBut _ _ D.i2z e⟩, fun b hb => ?_⟩
  ·rw [I.sq_inj e1 q1, I.sq_inj e2 q2]
   exact ⟨x, y, hx, hy, rfl⟩
  ·exact b2.extBut _ _ D.TIz (a7 _ _ D.TIz D.TITO D.TIi1 D.TIi2 hTI)
  ·have blt : b < s.heap.objs.size := by
    simp only [List.mem_cons, List.not_mem_nil, or_false] at hb
    rcases hb with rfl | rfl | rfl | rfl | rfl
    ·exact zlt
    ·exact Heap.lt_size hTI
    ·exact Heap.lt_size hTO
    ·obtain ⟨o, e, _⟩ := h1.obj; exact Heap.lt_size e
    ·obtain ⟨o, e, _⟩ := h2.obj; exact Heap.lt_size e
   rw [zaaw (Nat.ne_of_lt blt)]
   exact (hf b hb).1
 done := by
  intro X hP hw hK hc i pins s σ H E I hf st hg
  subst hP hw hK
  obtain ⟨hz, hTI, ⟨c, d, hTO⟩, h1, h2⟩ := st
  obtain ⟨xs, ys, q1, q2, hl⟩ := hg
  obtain ⟨ix, rx, px⟩ := I.sis q1
  obtain ⟨iy, ry, py⟩ := I.sis q2
  have l1 := rx.length
  have l2 := ry.length
  have hend : ix.toArray[i]? = none ∨ iy.toArray[i]? = none := by
   rcases hl with h | h
   ·exact .inl (by simp; omega)
   ·exact .inr (by simp; omega)
  have hT : s.TypeIs (.ref z) "zip" := ⟨_, hz, rfl⟩
  unfold pyNext
  refine wpAny_bind (wpAny_attempt (wpAny_callSpecial?_slot (name := Str.ofString "__next__") hT F.slot_zip_next
   (wpAny_call_entry F.slot_zip_next hT F.entry_zip_next (zapl (I.ok.hd hc) D hz hTI hTO h1 h2 px py hend fun h' e hk he => ?_) (F.args_zip_next_1 _))))
  obtain ⟨o, ho, hc'⟩ := he
  refine wpAny_bind (wpAny_isInstance (T := "StopIteration") (b := true) ⟨o, ho, hc'⟩ isSubtype_stop ?_)
  refine wpAny_pure ⟨rfl, I.turnedL (t' := s.toks) (its := [z, TI, TO, i1, i2]) (fun b o hb e => ?_) hf⟩
  simp only [List.mem_cons, List.not_mem_nil, or_false, not_or] at hb
  exact hk b o hb.1 hb.2.2.1 hb.2.2.2.1 hb.2.2.2.2 e
 self := fun _ _ _ _ _ st h => wpAny_pyIter_zip st.1 h
def itObj (k : SK) (l : Addr) : Obj := match k with
 | .list => { cls := .type "list_iterator", data := .fields #[.ref l, .int 0 0] }
 | .tuple => { cls := .type "tuple_iterator", data := .fields #[.ref l, .int 0 0] }
theorem zagl {k : SK} {l it : Addr} {h : Heap} (e : h.get? it = some (itObj k l)) : SIt k h it l 0 := by
 cases k with
 | list => exact ⟨_, e, rfl, rfl⟩
 | tuple => exact ⟨_, e, rfl, rfl⟩
abbrev zS1 (h : Heap) (k1 : SK) (l1 : Addr) : Heap := h.push (itObj k1 l1)
abbrev zS2 (h : Heap) (k1 k2 : SK) (l1 l2 : Addr) : Heap := (zS1 h k1 l1).push (itObj k2 l2)
abbrev zS3 (h : Heap) (k1 k2 : SK) (l1 l2 : Addr) : Heap := (zS2 h k1 k2 l1 l2).push { cls := .type "tuple", data := .seq #[.ref h.objs.size, .ref (zS1 h k1 l1).objs.size] }
abbrev zS4 (h : Heap) (k1 k2 : SK) (l1 l2 : Addr) : Heap := (zS3 h k1 k2 l1 l2).push { cls := .type "tuple", data := .seq #[.none, .none] }
abbrev zS5 (h : Heap) (k1 k2 : SK) (l1 l2 : Addr) : Heap := (zS4 h k1 k2 l1 l2).push { cls := .type "zip", data := .fields #[.none, .bool false, .bool false, .ref (zS2 h k1 k2 l1 l2).objs.size, .ref (zS3 h k1 k2 l1 l2).objs.size] }
set_option maxHeartbeats 4000000 in
theorem zaf2 (k1 k2 : SK) (l1 l2 : Addr) (xs ys : Array Value) :
  Meets (Builtin.«zip.__new__» ⟨[.type "zip", .ref l1, .ref l2], []⟩) (fun _ R s => SIs k1 s.heap l1 xs ∧ SIs k2 s.heap l2 ys ∧
   R (.ok (.ret (.ref (zS4 s.heap k1 k2 l1 l2).objs.size))) { s with heap := zS5 s.heap k1 k2 l1 l2 }) := by
 cases k1 with
 | list =>
  cases k2 with
  | list =>
   exact .of_wp fun prog w A R s h => by
    obtain ⟨hp, g, d, tk, os⟩ := s; obtain ⟨hl1, hl2, h⟩ := h
    have hsub := sub_zip
    have hL1 : Heap.IsList (Shared.heap ⟨hp, g, d, tk, os⟩) l1 xs := hl1
    have hL2 : Heap.IsList (Shared.heap ⟨hp.push { cls := .type "list_iterator", data := .fields #[.ref l1, .int 0 0] }, g, d, tk, os⟩) l2 ys := Heap.IsList.push hl2 _
    wp_walk using wpAny_pyIter_list hL1, wpAny_pyIter_list hL2
    exact ⟨_, rfl, h⟩
  | tuple =>
   exact .of_wp fun prog w A R s h => by
    obtain ⟨hp, g, d, tk, os⟩ := s; obtain ⟨hl1, hl2, h⟩ := h
    have hsub := sub_zip
    have hL1 : Heap.IsList (Shared.heap ⟨hp, g, d, tk, os⟩) l1 xs := hl1
    have hL2 : Heap.IsTuple (Shared.heap ⟨hp.push { cls := .type "list_iterator", data := .fields #[.ref l1, .int 0 0] }, g, d, tk, os⟩) l2 ys := SIs.at (k := .tuple) hl2 fun o e => Heap.get?_push_of_some _ e
    wp_walk using wpAny_pyIter_list hL1, wpAny_pyIter_tuple hL2
    exact ⟨_, rfl, h⟩
 | tuple =>
  cases k2 with
  | list =>
   exact .of_wp fun prog w A R s h => by
    obtain ⟨hp, g, d, tk, os⟩ := s; obtain ⟨hl1, hl2, h⟩ := h
    have hsub := sub_zip
    have hL1 : Heap.IsTuple (Shared.heap ⟨hp, g, d, tk, os⟩) l1 xs := hl1
    have hL2 : Heap.IsList (Shared.heap ⟨hp.push { cls := .type "tuple_iterator", data := .fields #[.ref l1, .int 0 0] }, g, d, tk, os⟩) l2 ys := SIs.at (k := .list) hl2 fun o e => Heap.get?_push_of_some _ e
    wp_walk using wpAny_pyIter_tuple hL1, wpAny_pyIter_list hL2
    exact ⟨_, rfl, h⟩
  | tuple =>
   exact .of_wp fun prog w A R s h => by
    obtain ⟨hp, g, d, tk, os⟩ := s; obtain ⟨hl1, hl2, h⟩ := h
    have hsub := sub_zip
    have hL1 : Heap.IsTuple (Shared.heap ⟨hp, g, d, tk, os⟩) l1 xs := hl1
    have hL2 : Heap.IsTuple (Shared.heap ⟨hp.push { cls := .type "tuple_iterator", data := .fields #[.ref l1, .int 0 0] }, g, d, tk, os⟩) l2 ys := SIs.at (k := .tuple) hl2 fun o e => Heap.get?_push_of_some _ e
    wp_walk using wpAny_pyIter_tuple hL1, wpAny_pyIter_tuple hL2
    exact ⟨_, rfl, h⟩
section
variable {prog : Program} {w : World} {A : Around} {E : Value → Shared → Prop} {s : Shared}
theorem zalz {k1 k2 : SK} {l1 l2 : Addr} {xs ys : Array Value} {Q : Value → Shared → Prop} (hl1 : SIs k1 s.heap l1 xs) (hl2 : SIs k2 s.heap l2 ys)
  (h : ∀ h', IsZip h' (s.heap.objs.size + 4) (s.heap.objs.size + 2) (s.heap.objs.size + 3) .none → IsPair h' (s.heap.objs.size + 2) (.ref s.heap.objs.size) (.ref (s.heap.objs.size + 1)) →
   IsPair h' (s.heap.objs.size + 3) .none .none → SIt k1 h' s.heap.objs.size l1 0 → SIt k2 h' (s.heap.objs.size + 1) l2 0 →
   (∀ c o, s.heap.get? c = some o → h'.get? c = some o) → Q (.ref (s.heap.objs.size + 4)) { s with heap := h' }) :
  wpAny (model prog w) A (call (.type "zip") [.ref l1, .ref l2]) Q E s := by
 refine callType_new F.called_zip (by decide) (F.typeCall_zip_2 _ _) (F.newCall_zip_2 _ _) (fun obj => F.args_object_init_3 obj _ _) F.entry_zip_new
  (zaf2 k1 k2 l1 l2 xs ys) ⟨hl1, hl2, ?_⟩
 have z1 : (zS1 s.heap k1 l1).objs.size = s.heap.objs.size + 1 := Heap.size_push ..
 have z2 : (zS2 s.heap k1 k2 l1 l2).objs.size = s.heap.objs.size + 2 := by rw [Heap.size_push, z1]
 have z3 : (zS3 s.heap k1 k2 l1 l2).objs.size = s.heap.objs.size + 3 := by rw [Heap.size_push, z2]
 have z4 : (zS4 s.heap k1 k2 l1 l2).objs.size = s.heap.objs.size + 4 := by rw [Heap.size_push, z3]
 have r1 : (itObj k1 l1).isFreed = false := by cases k1 <;> rfl
 have r2 : (itObj k2 l2).isFreed = false := by cases k2 <;> rfl
 have g5 : (zS5 s.heap k1 k2 l1 l2).get? (zS4 s.heap k1 k2 l1 l2).objs.size = some _ := Heap.get?_push_size _ rfl
 have g4 : (zS5 s.heap k1 k2 l1 l2).get? (zS3 s.heap k1 k2 l1 l2).objs.size = some _ := Heap.get?_push_of_some _ (Heap.get?_push_size _ rfl)
 have g3 : (zS5 s.heap k1 k2 l1 l2).get? (zS2 s.heap k1 k2 l1 l2).objs.size = some _ := Heap.get?_push_of_some _ (Heap.get?_push_of_some _ (Heap.get?_push_size _ rfl))
 have g2 : (zS5 s.heap k1 k2 l1 l2).get? (zS1 s.heap k1 l1).objs.size = some _ := Heap.get?_push_of_some _ (Heap.get?_push_of_some _ (Heap.get?_push_of_some _ (Heap.get?_push_size _ r2)))
 have g1 : (zS5 s.heap k1 k2 l1 l2).get? s.heap.objs.size = some _ := Heap.get?_push_of_some _ (Heap.get?_push_of_some _ (Heap.get?_push_of_some _ (Heap.get?_push_of_some _ (Heap.get?_push_size _ r1))))
 show _ ∧ _
 rw [z2, z3, z4] at g5
 rw [z1, z2] at g3
 rw [z3] at g4
 rw [z1] at g2
 rw [z4]
 exact ⟨⟨_, g5, rfl⟩, h _ g5 g3 g4 (zagl g1) (zagl g2) fun c o x =>
  Heap.get?_push_of_some _ (Heap.get?_push_of_some _ (Heap.get?_push_of_some _ (Heap.get?_push_of_some _ (Heap.get?_push_of_some _ x))))⟩
end
section
variable {X : Cx} {elts : List Expr} {kk : Nat} {tpos : Pos}
def iZip (K : PySem.W.Frag) (k1 k2 : SK) (ta : TA) : TI := fun σ H R => ta σ H fun vs H1 => ∃ a b, vs = [.ref a, .ref b] ∧ (∃ xs, Sq k1 K H1 a xs) ∧ (∃ ys, Sq k2 K H1 b ys) ∧ R (Itz K k1 k2 a b) H1
theorem zat9 (k1 k2 : SK) {a b : Expr} {ta : TA} {p pos : Pos} (hg : Gl X "zip") (hm : X.mg "zip" = none) (ha : PA X [a, b] ta) (hs : starEach [a, b] X.env = [(false, eval a X.env), (false, eval b X.env)] := by rfl) (hs2 : starEach [b] X.env = [(false, eval b X.env)] := by rfl) :
  PI X (.Tuple elts kk tpos) (.Call (.Name "zip" p) [a, b] [] pos) (iZip X.K k1 k2 ta) := by
 intro pins s σ H R I h
 refine Call_ (zaf8 I hg hm boot_zip (PyProof.Rows.callWith_type1 (thn (ha pos pins s σ H _ I h) fun us s1 ⟨vs, H1, I1, r1, q1⟩ => ?_) (by rw [hs, hs2]) (by rw [hs2]; rfl)))
 obtain ⟨a', b', e, ⟨xs, qx⟩, ⟨ys, qy⟩, q⟩ := q1
 subst e
 obtain ⟨u, v, rfl, ru, rv⟩ := vals2 r1
 cases ru
 cases rv
 obtain ⟨ix, rx, px⟩ := I1.sis qx
 obtain ⟨iy, ry, py⟩ := I1.sis qy
 refine zalz px py fun h' b1 b2 b3 b4 b5 b6 => wpAny_pyIter_zip (s := { s1 with heap := h' }) b1 ?_
 have nn : ∀ b, s1.heap.objs.size ≤ b → FpOk X pins H1 b := fun b hb => I1.fpOk hb (I1.hok.fresh hb)
 refine ⟨_, [s1.heap.objs.size + 4, s1.heap.objs.size + 2, s1.heap.objs.size + 3, s1.heap.objs.size, s1.heap.objs.size + 1], _, _, H1, rfl, I1.kept (t' := s1.toks) b6, zapm (k1 := k1) (k2 := k2) (zipApart_new px.lt py.lt), ⟨b1, b2, ⟨_, _, b3⟩, b4, b5⟩, fun b hb => ?_, q⟩
 simp only [List.mem_cons, List.not_mem_nil, or_false] at hb
 rcases hb with rfl | rfl | rfl | rfl | rfl
 ·exact nn _ (Nat.le_add_right _ _)
 ·exact nn _ (Nat.le_add_right _ _)
 ·exact nn _ (Nat.le_add_right _ _)
 ·exact nn _ (Nat.le_refl _)
 ·exact nn _ (Nat.le_add_right _ _)
theorem zapn {K : PySem.W.Frag} {k1 k2 : SK} {a b : Addr} {xs ys : List V} {g : TG} {tb : TS} {D : Ends} {σ : St} {H : Hp} (Pv : Nat → St → Hp → Prop) (h0 : Pv 0 σ H)
  (hl : ∀ i σ H, i ≤ min xs.length ys.length → Pv i σ H → Sq k1 K H a xs ∧ Sq k2 K H b ys)
  (hs : ∀ i x y σ H T, xs[i]? = some x → ys[i]? = some y → Pv i σ H → H T = none → g (.ref T) σ (upd H T (.tup [x, y])) fun σ2 H2 => tb { D with nx := Pv (i + 1), ct := Pv (i + 1), bk := D.nx } σ2 H2)
  (hd : ∀ σ H, Pv (min xs.length ys.length) σ H → D.nx σ H) : Loop (Itz K k1 k2 a b) g tb D σ H := by
 refine ⟨fun i m σ H => m = min xs.length ys.length - i ∧ i ≤ min xs.length ys.length ∧ Pv i σ H, ⟨min xs.length ys.length, by simp, Nat.zero_le _, h0⟩, ?_⟩
 rintro i m σ H ⟨rfl, hi, p⟩
 obtain ⟨q1, q2⟩ := hl i σ H hi p
 by_cases hlt : i < min xs.length ys.length
 ·have l1 : i < xs.length := by omega
  have l2 : i < ys.length := by omega
  refine .inr ⟨⟨xs, ys, xs[i], ys[i], q1, q2, by simp [l1], by simp [l2]⟩, Pv (i + 1), fun σ' H' p' => ⟨min xs.length ys.length - (i + 1), by omega, rfl, hlt, p'⟩, fun x H' y => ?_⟩
  obtain ⟨T, hT, rfl, y⟩ := y
  obtain ⟨u, v, e1, e2, rfl⟩ := y xs ys q1 q2
  exact hs i u v σ H T e1 e2 p hT
 ·have e : i = min xs.length ys.length := by omega
  refine .inl ⟨⟨xs, ys, q1, q2, by omega⟩, ?_⟩
  subst e
  exact hd σ H p
end
end L2

namespace L2
open PySem PySem.Spec PyProof.Rows PySem.Builtin PySem.Builtin.Str
section
variable {X : Cx}
def rSlS : V → Option Int → Option Int → Hp → VK → Prop := fun x lo hi H Q => ∃ z, x = .str z ∧ z.length ≤ sizeLine ∧ Q (.str (Txt.slice z lo hi)) H
def rMulS : R2 := fun x y H Q => ∃ c n, x = .str ⟨#[c]⟩ ∧ y = .int n ∧ 1 ≤ n ∧ n ≤ 1000 ∧ ∀ z : Str, z.cps.toList = List.replicate n.toNat c → Q (.str z) H
def rJoin (K : PySem.W.Frag) : V → List V → Hp → VK → Prop := fun x vs H Q => ∃ sep p ys, x = .str sep ∧ vs = [.ref p] ∧ SqL K H p (ys.map V.str) ∧ (ys.map (·.length)).sum + ys.length * sep.length ≤ 16777216 ∧ Q (.str (Str.join sep ys)) H
def rSplit : V → List V → Hp → VK → Prop := fun x vs H Q => ∃ z y, x = .str z ∧ vs = [.str y] ∧ y.length ≠ 0 ∧ z.length + 2 ≤ sizeLine ∧ ∀ p, H p = none → Q (.ref p) (upd H p (.lst ((Txt.split z y).map V.str)))
def rIsT (K : PySem.W.Frag) : List V → Hp → VK → Prop := fun xs H Q => ∃ x T t b, xs = [x, .ty T] ∧ TyOf K H x t ∧ PySem.W.kitOne K t (.type T) = some b ∧ Q (.bl b) H
theorem zaa1 : CallR X (.builtin "isinstance") (rIsT X.K) := by
 intro pins s σ H xs us Q I r h
 obtain ⟨x, T, t, b, rfl, ty, e, q⟩ := h
 obtain ⟨u, v, rfl, ru, rv⟩ := vals2 r
 cases rv
 exact zahq I ru ty e fun tk => ⟨.bl b, H, I.tok _, rfl, q⟩
example (K : PySem.W.Frag) : PySem.W.kitOne K (.type "int") (.type "int") = some true := rfl
example (K : PySem.W.Frag) : PySem.W.kitOne K (.type "str") (.type "int") = some false := rfl
example (K : PySem.W.Frag) : PySem.W.kitOne K (.type "tuple") (.type "int") = some false := rfl
example (K : PySem.W.Frag) : PySem.W.kitOne K (.type "bool") (.type "int") = some true := rfl
end
end L2

namespace L2
open PySem PySem.Spec PyProof.Rows
def ent (w : World) (x : Str × Tok × Value) : DictEntry := ⟨hashStr w x.1, .str x.1 x.2.1, x.2.2⟩
structure KD (P : Program) (w : World) (K : PySem.W.Frag) (a : Addr) (kvs : List (Key × V)) : Prop where
 ex : ∃ (o : Obj) (es : Array DictEntry) (ep : Nat) (vs : List (Key × Value)), K.lookup a = some o ∧ o.ExactDict ∧ o.data = .dict es ep ∧ KeysOf (mixKind P w) es ∧ Pairs (mixKind P w) es.toList vs ∧ (vs.map (·.1)).Nodup ∧ KV kvs vs
 ns : (a == sysModules) = false
def DK (P : Program) (w : World) (K : PySem.W.Frag) (H : Hp) (a : Addr) (kvs : List (Key × V)) : Prop := Rd H a (.dK kvs) ∨ KD P w K a kvs
section
variable {X : Cx}
def rIxD (X : Cx) : R2 := fun x y H Q => ∃ a kvs k v, x = .ref a ∧ y = kV k ∧ DK X.prog X.w X.K H a kvs ∧ valV kvs k = some v ∧ Q v H
def rInD (X : Cx) (neg : Bool) : R2 := fun x y H Q => ∃ a kvs k, y = .ref a ∧ x = kV k ∧ DK X.prog X.w X.K H a kvs ∧ Q (.bl (if neg then !(valV kvs k).isSome else (valV kvs k).isSome)) H
end
end L2

namespace L2
open PySem PySem.Spec PyProof.Rows
structure Pr (p : Prop) : Prop where
 h : p
section
variable {X : Cx}
theorem zal0 {i : Nat} {x : Str} {pos : Pos} (hN : X.N[i]? = some x) (hv : Vis X.env.scope x) (hd : (x == ("__debug__" : Str)) = false := by decide) (hcd : (x == ("__classdict__" : Str)) = false := by decide) : Pr (PE X (.Name x pos) (tVar i)) := ⟨zata hN hv hd hcd⟩
theorem zaae {i j pos} : Pr (PE X (.Constant (.int i) j pos) (tC (.int i))) := ⟨zatb⟩
theorem zac0 {b j pos} : Pr (PE X (.Constant (.bool b) j pos) (tC (.bl b))) := ⟨zau7⟩
theorem zadc {j pos} : Pr (PE X (.Constant .none j pos) (tC .non)) := ⟨zatc⟩
theorem zabm {x j pos} : Pr (PE X (.Constant (.str x) j pos) (tC (.str x))) := ⟨zatd⟩
theorem zabs {x : Str} {v : V} {u : Value} {pos : Pos} (hg : Gl X x) (hm : X.mg x = some u) (r : RelV v u) (hd : (x == ("__debug__" : Str)) = false := by decide) : Pr (PE X (.Name x pos) (tC v)) := ⟨zalb hg hm r hd⟩
theorem zaay {x : Str} {v : V} {u : Value} {pos : Pos} (hg : Gl X x) (hm : X.mg x = none) (hv : bootBuiltins x = some u) (r : RelV v u) (hn : x ≠ "__name__" := by decide) (hd : (x == ("__debug__" : Str)) = false := by decide) : Pr (PE X (.Name x pos) (tC v)) := ⟨zaq1 hg hm hv r hn hd⟩
end
section
variable {X : Cx} {a b c : Expr} {ta tb tc : TE} {pos : Pos}
theorem zaaz {op : Operator} {r : R2} (ho : OpR X (binaryOp op) r) (ha : Pr (PE X a ta)) (hb : Pr (PE X b tb)) : Pr (PE X (.BinOp a op b pos) (tOp r ta tb)) := ⟨zava ho ha.h hb.h⟩
theorem zaua {op : UnaryOp} {r : V → Hp → VK → Prop} (ho : UnR X (unaryOp op) r) (ha : Pr (PE X a ta)) : Pr (PE X (.UnaryOp op a pos) (tUn r ta)) := ⟨zavb ho ha.h⟩
theorem zabt {op : CmpOp} {r : R2} (ho : OpR X (compareOp op) r) (ha : Pr (PE X a ta)) (hb : Pr (PE X b tb)) (hm : behindInMarks op b = false) : Pr (PE X (.Compare a [op] [b] pos) (tOp r ta tb)) := ⟨zaq9 ho ha.h hb.h hm⟩
theorem zal1 {op op' : CmpOp} {r r' : R2} (ho : OpR X (compareOp op) r) (ho' : OpR X (compareOp op') r') (ha : Pr (PE X a ta)) (hb : Pr (PE X b tb)) (hc : Pr (PE X c tc)) (hm : lastMarks [op, op'] [b, c] = false := by with_unfolding_all rfl) : Pr (PE X (.Compare a [op, op'] [b, c] pos) (tChain r r' ta tb tc)) := ⟨zao6 ho ho' ha.h hb.h hc.h hm⟩
end
section
variable {X : Cx}
variable {a b : Expr} {ta tb : TE} {pos : Pos}
variable {tA tB' : TT} {rest : List Expr}
theorem zab2 (ha : Pr (PE X a ta)) (hb : Pr (PE X (.BoolOp .And (b :: rest) pos) tb)) : Pr (PE X (.BoolOp .And (a :: b :: rest) pos) (tAndV ta tb)) := ⟨zatl ha.h hb.h⟩
end
section
variable {X : Cx}
variable {a b : Expr} {ta tb : TE} {pos : Pos}
variable {tA tB' : TT} {rest : List Expr}
end
section
variable {X : Cx}
variable {a b : Expr} {ta tb : TE} {pos : Pos}
variable {tA tB' : TT} {rest : List Expr}
theorem zacg {op} {t : TE} (h : Pr (PE X a t)) : Pr (PE X (.BoolOp op [a] pos) t) := ⟨zatk h.h⟩
end
section
variable {X : Cx}
variable {a b : Expr} {ta tb : TE} {pos : Pos}
variable {tA tB' : TT} {rest : List Expr}
theorem zais (ha : Pr (PE X a ta)) : Pr (PE X (.UnaryOp .Not a pos) (tNotV ta)) := ⟨zatm ha.h⟩
end
section
variable {X : Cx}
variable {a b : Expr} {ta tb : TE} {pos : Pos}
variable {tA tB' : TT} {rest : List Expr}
end
section
variable {X : Cx} {e : Expr} {es : List Expr} {te : TE} {t : TA} {pos : Pos}
theorem zach {x1} (h : Pr (PA X es t)) : Pr (PE X (.Tuple es x1 pos) (tTup t)) := ⟨zatx h.h⟩
theorem zabz (h : Pr (PA X es t)) : Pr (PE X (.List es pos) (tLst t)) := ⟨zaty h.h⟩
end
section
variable {X : Cx} {e : Expr} {te : TE} {lo hi : Option Expr} {tl th : TO} {pos p2 : Pos}
theorem zal2 {r : V → Option Int → Option Int → Hp → VK → Prop} (hr : SlR X r) (he : Pr (PE X e te)) (hl : Pr (PO X lo tl)) (hu : Pr (PO X hi th)) : Pr (PE X (.Subscript e (.Slice lo hi none p2) pos) (tSl r te tl th)) := ⟨zapc hr he.h hl.h hu.h⟩
end
section
variable {X : Cx} {a b : Expr} {ta tb : TE} {pos : Pos}
theorem zaar {r : R2} (hr : IxR X r) (ha : Pr (PE X a ta)) (hb : Pr (PE X b tb)) (hs : PlainIx b) : Pr (PE X (.Subscript a b pos) (tOp r ta tb)) := ⟨zavd hr ha.h hb.h hs⟩
end
section
variable {X : Cx}
end
section
variable {X : Cx} {o e value : Expr} {f : Str} {pos pos' tpos : Pos} {ta tv : TE}
theorem zact (he : Pr (PE X e ta)) (hb : attributeBase e f X.env (eval e X.env) = eval e X.env) : Pr (PE X (.Attribute e f pos) (tFld X.K ta f)) := ⟨zaqk he.h hb⟩
end
section
variable {X : Cx} {CX : CXT} {k : Nat} {ps : List Str} {sp : Sp} {E : XK} {x : Str} {p pos : Pos} {e : Expr} {es : List Expr} {t : TA}
theorem zaam (D : DefOk X.prog X.w X.K X.mg X.base CX k x ps sp) (hr : Room k X.A) (hg : Gl X x) (hx : Passes CX X E) (ha : Pr (PA X (e :: es) t)) (hdb : (x == ("__debug__" : Str)) = false := by decide) (he : starEach (e :: es) X.env = (false, eval e X.env) :: starEach es X.env := by rfl) (hpl : (backTo pos (starEach es X.env)).any (·.1) = false := by rfl) : Pr (PE X (.Call (.Name x p) (e :: es) [] pos) (tCall sp [] E t)) := ⟨zapj D hr hg hx ha.h hdb he hpl⟩
end
section
variable {X : Cx} {x : Str} {p pos : Pos} {e : Expr} {es : List Expr} {t : TA} {id T : String} {r : List V → Hp → VK → Prop}
theorem zaaf (hc : CallR X (.builtin id) r) (hg : Gl X x) (hm : X.mg x = none) (hv : bootBuiltins x = some (.builtin id)) (ha : Pr (PA X (e :: es) t)) (hn : x ≠ "__name__" := by decide) (hdb : (x == ("__debug__" : Str)) = false := by decide) (he : starEach (e :: es) X.env = (false, eval e X.env) :: starEach es X.env := by rfl) (hpl : (backTo pos (starEach es X.env)).any (·.1) = false := by rfl) : Pr (PE X (.Call (.Name x p) (e :: es) [] pos) (tCB r t)) := ⟨zapa hc hg hm hv ha.h hn hdb he hpl⟩
theorem zabe (hc : CallR X (.type T) r) (hg : Gl X x) (hm : X.mg x = none) (hv : bootBuiltins x = some (.type T)) (ha : Pr (PA X (e :: es) t)) (hn : x ≠ "__name__" := by decide) (hdb : (x == ("__debug__" : Str)) = false := by decide) (he : starEach (e :: es) X.env = (false, eval e X.env) :: starEach es X.env := by rfl) (hpl : (backTo pos (starEach es X.env)).any (·.1) = false := by rfl) : Pr (PE X (.Call (.Name x p) (e :: es) [] pos) (tCB r t)) := ⟨zaln hc hg hm hv ha.h hn hdb he hpl⟩
end
section
variable {X : Cx} {a b : Expr} {ta tb : TE} {pos : Pos}
variable {o e : Expr} {es : List Expr} {to : TE} {t : TA} {name : Str} {apos cpos : Pos} {T id : String} {r : V → List V → Hp → VK → Prop}
theorem zafa (pa : PlainAttrs T) (slot : Slot T name id) (hty : typeOf (.builtin id) = pure (.type "method_descriptor")) (hm : MtR X id r) (ho : Pr (PE X o to)) (ha : Pr (PA X (e :: es) t)) (hbase : attributeBase o name X.env (eval o X.env) = eval o X.env := by rfl) (hfew : ((backTo cpos (starEach (e :: es) X.env)).all (fun x => !x.1) && (backToKw cpos (keywordEach [] X.env)).all (fun x => x.1.isSome)
   && decide ((e :: es).length + ([] : List Keyword).length + (if ([] : List Keyword).isEmpty then 0 else 1) < 30)) = true := by rfl) (hline : (apos.endLine == cpos.line) = true := by rfl) (hs : starEach (e :: es) X.env = (false, eval e X.env) :: starEach es X.env := by rfl) (hplain : (backTo cpos (starEach es X.env)).any (·.1) = false := by rfl) : Pr (PE X (.Call (.Attribute o name apos) (e :: es) [] cpos) (tBM X.K T r to t)) := ⟨zave pa slot hty hm ho.h ha.h hbase hfew hline hs hplain⟩
end
section
variable {X : Cx} {a b c : Expr} {ta tb tc : TE} {pos : Pos}
theorem zaat {op : CmpOp} {r : R2} (ho : OpR X (compareOp op) r) (ha : Pr (PE X a ta)) (hb : Pr (PE X b tb)) (hm : behindInMarks op b = false) : Pr (PT X (.Compare a [op] [b] pos) (tTest (tOp r ta tb))) := ⟨zara ho ha.h hb.h hm⟩
end
section
variable {X : Cx}
variable {a b : Expr} {ta tb : TE} {pos : Pos}
variable {tA tB' : TT} {rest : List Expr}
theorem zabn (ha : Pr (PT X a tA)) : Pr (PT X (.UnaryOp .Not a pos) (tNot tA)) := ⟨zatj ha.h⟩
end
section
variable {X : Cx}
variable {a b : Expr} {ta tb : TE} {pos : Pos}
theorem zaa6 {e : Expr} {t : TE} (h : Pr (PE X e t)) (he : ∀ whole, isTrue e X.env whole = (do let v ← whole; standAt e.pos; holding [v] (truthy v)) := by intro _; rfl) : Pr (PT X e (tB t)) := ⟨zatg h.h he⟩
end
section
theorem zab7 {X : Cx} {e : Expr} {t : TT} (h : Pr (PW X e t)) : Pr (PT X e t) := ⟨PW.pt h.h⟩
end
section
variable {X : Cx}
variable {a b : Expr} {ta tb : TE} {pos : Pos}
variable {tA tB' : TT} {rest : List Expr}
theorem zafb (ha : Pr (PT X a tA)) (hb : Pr (PW X (.BoolOp .And (b :: rest) pos) tB')) : Pr (PW X (.BoolOp .And (a :: b :: rest) pos) (tAnd tA tB')) := ⟨zati ha.h hb.h⟩
end
section
variable {X : Cx}
variable {a b : Expr} {ta tb : TE} {pos : Pos}
variable {tA tB' : TT} {rest : List Expr}
theorem zae1 (ha : Pr (PT X a tA)) : Pr (PW X (.BoolOp .And [a] pos) tA) := ⟨zaq2 ha.h⟩
end
section
variable {X : Cx}
variable {a b : Expr} {ta tb : TE} {pos : Pos}
variable {tA tB' : TT} {rest : List Expr}
theorem zab8 (ha : Pr (PT X a tA)) (hb : Pr (PW X (.BoolOp .Or (b :: rest) pos) tB')) : Pr (PW X (.BoolOp .Or (a :: b :: rest) pos) (tOr tA tB')) := ⟨zau8 ha.h hb.h⟩
end
section
variable {X : Cx}
variable {a b : Expr} {ta tb : TE} {pos : Pos}
variable {tA tB' : TT} {rest : List Expr}
theorem zab3 (ha : Pr (PT X a tA)) : Pr (PW X (.BoolOp .Or [a] pos) tA) := ⟨zath ha.h⟩
end
section
variable {X : Cx} {e : Expr} {es : List Expr} {te : TE} {t : TA} {pos : Pos}
theorem zaab  : Pr (PA X [] tNil) := ⟨zatw⟩
theorem zaaa (ha : Pr (PE X e te)) (hr : Pr (PA X es t)) (hs : starEach (e :: es) X.env = (false, eval e X.env) :: starEach es X.env := by rfl) : Pr (PA X (e :: es) (tCons te t)) := ⟨zare ha.h hr.h hs⟩
end
section
variable {X : Cx} {e : Expr} {te : TE} {lo hi : Option Expr} {tl th : TO} {pos p2 : Pos}
theorem zapo  : Pr (PO X none tNoPart) := ⟨zari⟩
theorem zapp (h : Pr (PE X e te)) : Pr (PO X (some e) (tPart te)) := ⟨zarj h.h⟩
end
section
variable {X : Cx} {tg : Expr}
theorem zabj {l : Expr} {tl : TE} (hl : Pr (PE X l tl)) : Pr (PI X tg l (iList X.K tl)) := ⟨zald hl.h⟩
theorem zal3 {l : Expr} {tl : TE} (hl : Pr (PE X l tl)) : Pr (PI X tg l (iTup X.K tl)) := ⟨zaqh hl.h⟩
theorem zabk {a : Expr} {ta : TA} {p pos : Pos} (hg : Gl X "range") (hm : X.mg "range" = none) (ha : Pr (PA X [a] ta)) (hs : starEach [a] X.env = [(false, eval a X.env)] := by rfl) : Pr (PI X tg (.Call (.Name "range" p) [a] [] pos) (iRng1 ta)) := ⟨zale hg hm ha.h hs⟩
end
section
variable {X : Cx} {elts : List Expr} {kk : Nat} {tpos : Pos}
theorem zait (k1 k2 : SK) {a b : Expr} {ta : TA} {p pos : Pos} (hg : Gl X "zip") (hm : X.mg "zip" = none) (ha : Pr (PA X [a, b] ta)) (hs : starEach [a, b] X.env = [(false, eval a X.env), (false, eval b X.env)] := by rfl) (hs2 : starEach [b] X.env = [(false, eval b X.env)] := by rfl) : Pr (PI X (.Tuple elts kk tpos) (.Call (.Name "zip" p) [a, b] [] pos) (iZip X.K k1 k2 ta)) := ⟨zat9 k1 k2 hg hm ha.h hs hs2⟩
end
section
variable {X : Cx} {pos : Pos}
theorem zaap {i : Nat} {x : Str} (hN : X.N.Nodup) (hi : X.N[i]? = some x) (hx : Loc X.env.scope x) (hf : X.fn x = true ∨ X.env.scope.names.lookup x = some .local := by first | exact .inl rfl | exact .inr rfl | assumption) : Pr (PG X (.Name x pos) (gName i)) := ⟨zaq6 hN hi hx hf⟩
theorem zacc  : Pr (PGs X [] gNil) := ⟨zaq7⟩
theorem zaa3 {e : Expr} {es : List Expr} {t : TG} {u : TGs} (h1 : Pr (PG X e t)) (h2 : Pr (PGs X es u)) (hs : (assignEach (e :: es) X.env).map (·.2) = assign e X.env :: (assignEach es X.env).map (·.2) := by rfl) : Pr (PGs X (e :: es) (gCons t u)) := ⟨zao0 h1.h h2.h hs⟩
theorem zarw {es : List Expr} {k : Nat} {t : TGs} {n : Nat} (hc : X.calm = true) (h : Pr (PGs X es t)) (hn : (assignEach es X.env).length = n := by rfl) (hst : (assignEach es X.env).findIdx? (·.1) = none := by rfl) : Pr (PG X (.Tuple es k pos) (gTup X.K n t)) := ⟨zaqg hc h.h hn hst⟩
theorem zarx {o i : Expr} {to ti : TE} {t : TSet} (ho : Pr (PE X o to)) (hi : Pr (PE X i ti)) (hs : PSet X t) (ha : ∀ v, assign (.Subscript o i pos) X.env v = (do
   let ov ← holding [v] (eval o X.env)
   let iv ← holding [v, ov] (eval i X.env)
   standAt pos
   holding [v, ov, iv] (setItem ov iv v)
   release [v, ov, iv] []) := by intro _; rfl) : Pr (PG X (.Subscript o i pos) (gSub to ti t)) := ⟨zato ho.h hi.h hs ha⟩
end
section
variable {X : Cx} {st : Stmt} {rest : List Stmt} {t u : TS} {e : Expr} {te : TE} {pos : Pos}
theorem zaas (he : Pr (PE X e te)) : Pr (PS X (.Return (some e) pos) (tRet te)) := ⟨zatn he.h⟩
end
section
variable {X : Cx} {pos : Pos}
theorem zaax {i : Nat} {x : Str} {e : Expr} {te : TE} {pos' : Pos} (hN : X.N.Nodup) (hi : X.N[i]? = some x) (hx : Loc X.env.scope x) (he : Pr (PE X e te)) (hs : swapsWith e (some (.Name x pos')) pos.line X.env = pure false := by rfl) (hf : X.fn x = true ∨ X.env.scope.names.lookup x = some .local := by first | exact .inl rfl | exact .inr rfl | assumption) : Pr (PS X (.Assign [.Name x pos'] e pos) (tAsg te (gName i))) := ⟨zatq hN hi hx he.h hs hf⟩
theorem zary {tg e : Expr} {te : TE} {g : TG} (he : Pr (PE X e te)) (hg : Pr (PG X tg g)) (hs : swapsWithSole [tg] e pos.line X.env = pure false := by rfl) (hw : swappedStores [tg] e X.env = pure none := by rfl) (h1 : (assignEach [tg] X.env).map (·.2) = [assign tg X.env] := by rfl) : Pr (PS X (.Assign [tg] e pos) (tAsg te g)) := ⟨zatp he.h hg.h hs hw h1⟩
end
section
variable {X : Cx} {st : Stmt} {rest : List Stmt} {t u : TS} {e : Expr} {te : TE} {pos : Pos}
theorem zaa5 {c : Expr} {a b : List Stmt} {tc : TT} (hc : Pr (PT X c tc)) (ha : Pr (PSs X a t)) (hb : Pr (PSs X b u)) : Pr (PS X (.If c a b pos) (tIfS tc t u)) := ⟨zau9 hc.h ha.h hb.h⟩
end
section
theorem zabp {X : Cx} {tg iter : Expr} {body : List Stmt} {wi : TI} {g : TG} {tb : TS} {pos : Pos} (hp : PassesOwn (model X.prog X.w) X.A X.env X.xe) (hc : X.calm = true) (hi : Pr (PI X tg iter wi)) (hg : Pr (PG X tg g)) (hb : Pr (PSs X body tb)) (hs : ∀ x, foldedSetIterable iter X.env x = pure x := by intro _; rfl) : Pr (PS X (.For tg iter body [] pos) (tLoop wi g tb)) := ⟨zart hp hc hi.h hg.h hb.h hs⟩
end
section
variable {X : Cx} {pos : Pos}
theorem zah2 {c : Expr} {body : List Stmt} {tc : TT} {tb : TS} (hp : PassesOwn (model X.prog X.w) X.A X.env X.xe) (hc : Pr (PT X c tc)) (hb : Pr (PSs X body tb)) : Pr (PS X (.While c body [] pos) (tWhile tc tb)) := ⟨zao1 hp hc.h hb.h⟩
end
section
variable {X : Cx} {st : Stmt} {rest : List Stmt} {t u : TS} {e : Expr} {te : TE} {pos : Pos}
theorem zabu (he : Pr (PE X e te)) (hs : swapsWith e none pos.line X.env = pure false := by rfl) : Pr (PS X (.Expr e pos) (tDrop te)) := ⟨zaq5 he.h hs⟩
theorem zaav  : Pr (PSs X [] tNext) := ⟨zaq3⟩
theorem zaah (h1 : Pr (PS X st t)) : Pr (PSs X [st] t) := ⟨zaq4 h1.h⟩
theorem zaad (h1 : Pr (PS X st t)) (h2 : Pr (PSs X rest u)) : Pr (PSs X (st :: rest) (tSeq t u)) := ⟨zajp h1.h h2.h⟩
end
section
theorem zac6 {X : Cx} {st : Stmt} {rest : List Stmt} {t u : TS} (h1 : Pr (PS X st t)) (h2 : Pr (PSs X rest u)) : Pr (PSs X (st :: rest) (tCut t u)) := ⟨zaru h1.h h2.h⟩
end
section
variable {X : Cx} {st : Stmt} {rest : List Stmt} {t u : TS} {e : Expr} {te : TE} {pos : Pos}
end
section
variable {X : Cx} {o e value : Expr} {f : Str} {pos pos' tpos : Pos} {ta tv : TE}
theorem zac7 (ha : Pr (PE X o ta)) (hv : Pr (PE X value tv)) (hs : swapsWith value (some (.Attribute o f pos')) pos.line X.env = pure false) : Pr (PS X (.Assign [.Attribute o f pos'] value pos) (sFld X.K ta tv f)) := ⟨zatv ha.h hv.h hs⟩
end
end L2

namespace L2
open PySem PySem.Spec PyProof.Rows
def relab (sc outer : Scope) : Scope :=
 { sc with names := sc.names.map fun (n, k) => if (k == .free && outer.kind == .function && outer.names.lookup n == some .cell) then (n, .cell) else (n, k) }
structure CompOk (sc outer : Scope) (own : List Str) (N : List Str) (fr : List Nat) (N' : List Str) : Prop where
 kind : sc.kind = .function
 nocell : ∀ y ∈ sc.names, y.2 ≠ .cell
 loc : ∀ y ∈ sc.names, y.2 = .local → sc.names.lookup y.1 = some .local
 fre : ∀ y ∈ sc.names, y.2 = .free → outer.names.lookup y.1 = some .cell ∨ outer.names.lookup y.1 = some .free
 nd : N'.Nodup
 all : N'.map some = own.map some ++ fr.map fun j => N[j]?
 frk : ∀ j ∈ fr, ∀ x, N[j]? = some x → sc.names.lookup x = some .free ∧ (outer.names.lookup x = some .cell ∨ outer.names.lookup x = some .free)
def cst (n : Nat) (fr : List Nat) (σ : St) : St := List.replicate n none ++ fr.map fun j => (σ[j]?).join
theorem zafc {env : Env} {sc : Scope} (h : ∀ y ∈ sc.names, y.2 = .free → ∃ c, env.cells.lookup y.1 = some c) :
  ∃ cl, closureFor sc env = pure cl ∧ (∀ x c, cl.lookup x = some c → env.cells.lookup x = some c) ∧ ∀ y ∈ sc.names, y.2 = .free → ∃ c, cl.lookup y.1 = some c := by
 have key : ∀ (l : List (Str × NameKind)) (cs : List (Str × Addr)), (∀ y ∈ l, y.2 = .free → ∃ c, env.cells.lookup y.1 = some c) → (∀ x c, cs.lookup x = some c → env.cells.lookup x = some c) →
   ∃ cl, (forIn l cs fun x r => if (x.2 == NameKind.free) = true then do let a ← cellOf env x.1; pure (ForInStep.yield ((x.1, a) :: r)) else pure (ForInStep.yield r)) = (pure cl : Sem _) ∧ (∀ x c, cl.lookup x = some c → env.cells.lookup x = some c) ∧
    (∀ x, (∃ c, cs.lookup x = some c) → ∃ c, cl.lookup x = some c) ∧ ∀ y ∈ l, y.2 = .free → ∃ c, cl.lookup y.1 = some c := by
  intro l
  induction l with
  | nil => intro cs _ h2; exact ⟨cs, rfl, h2, fun _ z => z, fun y hy => nomatch hy⟩
  | cons y l ih =>
   intro cs h1 h2
   obtain ⟨n, k⟩ := y
   by_cases hk : k = .free
   ·subst hk
    obtain ⟨c, hc⟩ := h1 (n, .free) List.mem_cons_self rfl
    obtain ⟨cl, e, a, b, d⟩ := ih ((n, c) :: cs) (fun y hy => h1 y (List.mem_cons_of_mem _ hy)) (fun x c' hx => by
     rw [List.lookup_cons] at hx
     split at hx
     ·rename_i q
      have : x = n := by simpa using q
      cases hx; subst this; exact hc
     ·exact h2 x c' hx)
    refine ⟨cl, ?_, a, fun x ⟨c', hx⟩ => b x ?_, fun y hy hf => ?_⟩
    ·rw [List.forIn_cons]
     have e1 : cellOf env n = pure c := by unfold cellOf; rw [hc]
     simp only [beq_self_eq_true, if_true, e1, pure_bind]
     exact e
    ·rw [List.lookup_cons]
     split
     ·exact ⟨_, rfl⟩
     ·exact ⟨c', hx⟩
    ·rcases List.mem_cons.mp hy with rfl | hy
     ·exact b n ⟨c, by simp [List.lookup_cons]⟩
     ·exact d y hy hf
   ·obtain ⟨cl, e, a, b, d⟩ := ih cs (fun y hy => h1 y (List.mem_cons_of_mem _ hy)) h2
    refine ⟨cl, ?_, a, b, fun y hy hf => ?_⟩
    ·rw [List.forIn_cons]
     have hb : (k == NameKind.free) = false := by simpa using hk
     simp only [hb, Bool.false_eq_true, if_false, pure_bind]
     exact e
    ·rcases List.mem_cons.mp hy with rfl | hy
     ·exact absurd hf hk
     ·exact d y hy hf
 obtain ⟨cl, e, a, _, d⟩ := key sc.names [] h (fun x c hx => by simp at hx)
 refine ⟨cl, ?_, a, d⟩
 unfold closureFor
 simp only [e, pure_bind]
def cxC (X : Cx) (sc : Scope) (cl : List (Str × Addr)) (N' : List Str) (C : Addr) (s : Shared) (H : Hp) (fp : List Addr) : Cx :=
 { X with N := N', s₀ := s, H₀ := H, env := compEnvC sc cl C X.env, outer := X.stack, stack := X.stack, ex := fp, fn := fun _ => false, pn := [], xe := fun _ _ => False }
theorem zacp {outer : Scope} : ∀ {names : List (Str × NameKind)} {x : Str} {k : NameKind},
  (names.map fun (n, k) => if (k == NameKind.free && outer.kind == .function && outer.names.lookup n == some .cell) then (n, NameKind.cell) else (n, k)).lookup x = some k →
   names.lookup x = some k ∨ (names.lookup x = some .free ∧ k = .cell)
 | [], x, k, h => by simp at h
 | (n, k') :: r, x, k, h => by
  rw [List.map_cons] at h
  by_cases hc : (k' == NameKind.free && outer.kind == .function && outer.names.lookup n == some .cell) = true
  ·simp only [hc, if_true] at h
   rw [List.lookup_cons] at h ⊢
   cases hx : x == n with
   | true =>
    rw [hx] at h
    simp only [Option.some.injEq] at h
    have hf : k' = .free := by
     have := (Bool.and_eq_true_iff.mp (Bool.and_eq_true_iff.mp hc).1).1
     simpa using this
    exact .inr ⟨by simp [hf], h.symm⟩
   | false => rw [hx] at h; exact zacp h
  ·simp only [hc, Bool.false_eq_true, if_false] at h
   rw [List.lookup_cons] at h ⊢
   cases hx : x == n with
   | true => rw [hx] at h; exact .inl (by simpa using h)
   | false => rw [hx] at h; exact zacp h
theorem zaef {outer : Scope} : ∀ {names : List (Str × NameKind)} {x : Str}, names.lookup x = some .free →
  (names.map fun (n, k) => if (k == NameKind.free && outer.kind == .function && outer.names.lookup n == some .cell) then (n, NameKind.cell) else (n, k)).lookup x = some .cell ∨
  (names.map fun (n, k) => if (k == NameKind.free && outer.kind == .function && outer.names.lookup n == some .cell) then (n, NameKind.cell) else (n, k)).lookup x = some .free
 | [], x, h => by simp at h
 | (n, k') :: r, x, h => by
  rw [List.lookup_cons] at h
  rw [List.map_cons]
  by_cases hc : (k' == NameKind.free && outer.kind == .function && outer.names.lookup n == some .cell) = true
  ·simp only [hc, if_true]
   rw [List.lookup_cons]
   cases hx : x == n with
   | true => exact .inl rfl
   | false => rw [hx] at h; exact zaef h
  ·simp only [hc, Bool.false_eq_true, if_false]
   rw [List.lookup_cons]
   cases hx : x == n with
   | true => rw [hx] at h; exact .inr h
   | false => rw [hx] at h; exact zaef h
theorem zac8 {α : Type} : ∀ {l : List (Str × α)} {x : Str} {k : α}, l.lookup x = some k → (x, k) ∈ l
 | [], _, _, h => by simp at h
 | (n, k') :: r, x, k, h => by
  rw [List.lookup_cons] at h
  cases hx : x == n with
  | true =>
   rw [hx] at h
   have e : x = n := by simpa using hx
   have e2 : k' = k := by simpa using h
   rw [e, e2]; exact List.mem_cons_self
  | false => rw [hx] at h; exact List.mem_cons_of_mem _ (zac8 h)
section
variable {X : Cx} {pins : List (Addr × Obj)} {σ : St} {H : Hp} {s : Shared} {sc : Scope} {own : List Str} {fr : List Nat} {N' : List Str} {cl : List (Str × Addr)}
theorem zaiu (I : Inv X pins σ H s) (cs : CompOk sc X.env.scope own X.N fr N') (h1 : ∀ x c, cl.lookup x = some c → X.env.cells.lookup x = some c) (h2 : ∀ y ∈ sc.names, y.2 = .free → ∃ c, cl.lookup y.1 = some c)
  {fp : List Addr} (hf : ∀ b ∈ fp, FpOk X pins H b ∧ ∃ o, s.heap.get? b = some o) {h' : Heap} {t' : Nat} {C D : Addr} {o : Obj} (hC : s.heap.objs.size ≤ C) (hD : s.heap.objs.size ≤ D) (hDC : D ≠ C)
  (k : ∀ b u, s.heap.get? b = some u → h'.get? b = some u) (hn : h'.Ns C fun _ => none) (hDo : h'.get? D = some o) (hd : ∀ v, o.data ≠ .cell v) :
  Inv (cxC X sc cl N' C s H fp) [(D, o)] (cst own.length fr σ) H { s with heap := h', toks := t' } := by
 have lt : ∀ b u, s.heap.get? b = some u → b < s.heap.objs.size := fun b u e => Heap.lt_size e
 have fpC : ∀ b ∈ fp, b ≠ C := fun b hb z => by
  obtain ⟨_, o, e⟩ := hf b hb
  have := lt b o e
  rw [z] at this
  exact absurd (Nat.lt_of_lt_of_le this hC) (Nat.lt_irrefl _)
 have lenN : N'.length = own.length + fr.length := by
  have := congrArg List.length cs.all
  simpa using this
 refine ⟨⟨I.ok.mod, cs.kind, I.ok.glob, I.ok.blt, hC, fun x y c e1 e2 => I.ok.inj x y c (h1 x c e1) (h1 y c e2), fun x hx => ?_, fun x c z => absurd z Bool.false_ne_true, I.ok.hd, I.ok.frames, .inl rfl, fun b hb => ⟨fpC b hb, fun x c e => (hf b hb).1.2.2.2.2.1 x c (h1 x c e)⟩,
   I.bs, Nat.le_trans I.ok.bsz I.sz, fun b o' e hb => ?_, fun b hb z => ?_, I.stack, I.stkFree⟩,
  rfl, I.bare, Un.kept k, ⟨_, hn, fun i x v e1 e2 e3 => ?_⟩, fun x c e => ?_, I.hok.fresh hC, fun x c e => I.freeC x c (h1 x c e), fun p hp => ?_, I.hok.kept k, ?_⟩
 ·have hx' : (relab sc X.env.scope).names.lookup x = some .cell ∨ (relab sc X.env.scope).names.lookup x = some .free := hx
  have hfree : sc.names.lookup x = some .free := by
   rcases hx' with z | z
   ·rcases zacp z with q | q
    ·exact absurd rfl (cs.nocell _ (zac8 q))
    ·exact q.1
   ·rcases zacp z with q | q
    ·exact q
    ·exact q.1
  exact h2 (x, .free) (zac8 hfree) rfl
 ·have q := (hf b hb).1.2.2.2.1
  rcases q with q | q
  ·exact I.ok.noex b o' e q
  ·exact absurd (Nat.lt_of_lt_of_le (Heap.lt_size (I.ok.bs b o' e).1) q) (Nat.lt_irrefl _)
 ·have z' : b ∈ frs X.stack := z
  rcases List.mem_cons.mp (I.stkSub b z') with q | q
  ·exact (hf b hb).1.2.1 q
  ·exact (hf b hb).1.2.2.1 q
 ·-- a name of the block at its entry is one of the def's
  have hi : own.length ≤ i := by
   by_cases hi : i < own.length
   ·have e2' : (cst own.length fr σ)[i]? = some none := by
     unfold cst
     rw [List.getElem?_append_left (by simpa using hi), List.getElem?_replicate, if_pos hi]
    rw [e2'] at e2; cases e2
   ·omega
  have e2' : (fr.map fun j => (σ[j]?).join)[i - own.length]? = some (some v) := by
   unfold cst at e2
   rwa [List.getElem?_append_right (by simpa using hi), List.length_replicate] at e2
  rw [List.getElem?_map] at e2'
  have e1a : (N'.map some)[i]? = some (some x) := by
   have e1 : N'[i]? = some x := e1
   rw [List.getElem?_map, e1]; rfl
  rw [cs.all, List.getElem?_append_right (by simpa using hi), List.length_map, List.getElem?_map] at e1a
  cases ej : fr[i - own.length]? with
  | none => rw [ej] at e2'; cases e2'
  | some j =>
   rw [ej] at e2' e1a
   have hj : j ∈ fr := List.mem_of_getElem? ej
   have nj : X.N[j]? = some x := by simpa using e1a
   have sj : σ[j]? = some (some v) := by
    have : (σ[j]?).join = some v := by simpa using e2'
    cases q : σ[j]? with
    | none => rw [q] at this; cases this
    | some y => rw [q] at this; simp at this; rw [this]
   obtain ⟨kf, ko⟩ := cs.frk j hj x nj
   obtain ⟨m, hm, hl⟩ := I.loc
   obtain ⟨u, r, l⟩ := hl j x v nj sj (.inr ko)
   refine ⟨u, r, .inr ?_⟩
   have lk : X.env.kindOf x = some .cell ∨ X.env.kindOf x = some .free := ko
   rcases l with ⟨z, _⟩ | ⟨_, c, ec, ic⟩
   ·rcases lk with q | q <;> rw [z] at q <;> cases q
   ·obtain ⟨c', hc'⟩ := h2 (x, .free) (zac8 kf) rfl
    have : c' = c := by
     have := h1 x c' hc'
     rw [ec] at this; exact (Option.some.inj this).symm
    subst this
    refine ⟨zaef kf, c', hc', ?_⟩
    obtain ⟨oc, hoc, hcd⟩ := ic
    exact ⟨oc, k c' oc hoc, hcd⟩
 ·obtain ⟨v, oc, hoc, hcd⟩ := I.cell x c (h1 x c e)
  exact ⟨v, oc, k c oc hoc, hcd⟩
 ·have hp' : p ∈ [(D, o)] := hp
  have e : p = (D, o) := by simpa using hp'
  subst e
  refine ⟨hDo, I.hok.fresh hD, hDC, fun z => ?_, hd⟩
  have z' : D ∈ frs X.stack := z
  obtain ⟨_, o2, ho2, _⟩ := I.stack.mem z'
  exact absurd (Nat.lt_of_lt_of_le (Heap.lt_size ho2) hD) (Nat.lt_irrefl _)
 ·show (cst own.length fr σ).length = N'.length
  unfold cst
  rw [List.length_append, List.length_replicate, List.length_map, lenN]
theorem zal4 (I : Inv X pins σ H s) {fp : List Addr} (hf : ∀ b ∈ fp, FpOk X pins H b ∧ ∃ o, s.heap.get? b = some o) {C D : Addr} {its : List Value} {ys : List V} {n : Nat} {σ' : St} {H' : Hp} {s' : Shared}
  (hD : s.heap.objs.size ≤ D) (J : Inv (cxC X sc cl N' C s H fp) [(D, { cls := .type "list", data := .seq its.toArray n })] σ' H' s') (r : Vals ys its) (hz : ys.length ≤ sizeLine) : Inv X pins σ (upd H' D (.lst ys)) s' := by
 obtain ⟨hDo, hDn, hDC, hDf, hDc⟩ := J.pin (D, { cls := .type "list", data := .seq its.toArray n }) (List.mem_append_right _ List.mem_cons_self)
 have u : Un (frs X.stack) fp H H' s.heap s'.heap := J.base
 have os : s'.os = s.os := J.os
 have lt : ∀ b ob, s.heap.get? b = some ob → b ≠ D := fun b ob e z => by
  have := Heap.lt_size e
  rw [z] at this
  exact absurd (Nat.lt_of_lt_of_le this hD) (Nat.lt_irrefl _)
 refine I.call' (ch := fp) os ⟨u.keep, u.slot, fun b ob e n hx => ?_, u.there, fun b xs e => ?_, fun b ob x e => ?_, fun b ps e => ?_⟩ ?_ J.bare (fun b hb => ?_)
 ·rw [zaaw (lt b ob e)]; exact u.free b ob e n hx
 ·have := u.tups b xs e
  rw [zaaw (zaao this hDn)]; exact this
 ·have := u.frzs b ob x e
  rw [zaaw (zaao this hDn)]; exact this
 ·obtain ⟨m, q⟩ := u.tbls b ps e
  exact ⟨m, by rw [zaaw (zaao q hDn)]; exact q⟩
 ·intro b ob e
  by_cases hb : b = D
  ·subst hb
   rw [zaag] at e; cases e
   exact ⟨hz, its, n, r, hDo⟩
  ·rw [zaaw hb] at e
   exact (J.hok b ob e).stay (fun c v _ q => q) (fun c q => by rw [zaaw (zaao q hDn)]; exact q) fun c xs q => by rw [zaaw (zaao q hDn)]; exact q
 ·obtain ⟨_, f1, _, f3, f4, f5⟩ := (hf b hb).1
  exact ⟨f3, f1, f4, f5⟩
end
def PIf (X : Cx) (ifs : List Expr) (t : TT) : Prop :=
 ∀ (pins : List (Addr × Obj)) (s : Shared) (σ : St) (H : Hp) (Q : Bool → Hp → Prop), Inv X pins σ H s → t σ H Q →
  wpAny (model X.prog X.w) X.A (forIn ifs true fun c r => if r = true then do let ok ← isTrue c X.env (eval c X.env); pure (ForInStep.yield ok) else pure (ForInStep.yield r)) (TP X pins σ Q) X.xe s
def tYes : TT := fun _ H Q => Q true H
theorem zarz {X : Cx} : PIf X [] tYes := fun _ _ _ H _ I h => wpAny_tests_nil ⟨H, I, h⟩
theorem zar0 {X : Cx} {c : Expr} {t : TT} (h : PT X c t) : PIf X [c] t := fun pins s σ H Q I q => wpAny_tests_one (h pins s σ H Q I q)
structure Comp (J : It) (g : TG) (tt : TT) (te : TE) (Q : List V → Hp → Prop) (σ : St) (H : Hp) : Prop where
 ex : ∃ W : Nat → Nat → List V → St → Hp → Prop, (∃ m, W 0 m [] σ H) ∧ ∀ i m ys σ H, W i m ys σ H → ys.length < sizeLine ∧
  ((J.stop i H ∧ Q ys H) ∨ (J.go i H ∧ ∃ N : List V → St → Hp → Prop, (∀ ys' σ' H', N ys' σ' H' → ∃ m', m' < m ∧ W (i + 1) m' ys' σ' H') ∧
    ∀ x H', J.yld i H x H' → g x σ H' fun σ2 H2 => tt σ2 H2 fun b H3 => if b = true then te σ2 H3 fun y H4 => N (ys ++ [y]) σ2 H4 else N ys σ2 H3))
section
variable {prog : Program} {w : World} {A : Around} {R : Result → Shared → Prop} {s : Shared}
theorem zah3 {elt target iter : Expr} {ifs : List Expr} {scope : Scope} {pos : Pos} {it acc : Value} {env : Env} (I : Nat → Shared → Prop)
  (turn : ∀ n s, I n s → wpAny (model prog w) A (pyNext it) (fun r s₁ => match r with
   | none => R (.ok .next) s₁
   | some v => wpAny (model prog w) A (letOwnedTupleGo target it v) (fun _ s₁ => wpAny (model prog w) A (assign target env v) (fun _ s₂ =>
     wpAny (model prog w) A (forIn ifs true fun c r => if r = true then do let ok ← isTrue c env (eval c env); pure (ForInStep.yield ok) else pure (ForInStep.yield r)) (fun ok s₃ =>
      if ok = true then wpAny (model prog w) A (eval elt env) (fun x s₄ =>
       wpAny (model prog w) A (call (.builtin "list.append") [acc, x]) (fun _ s₅ => ∃ m, m < n ∧ I m s₅) (fun _ _ => False) s₄) (fun _ _ => False) s₃
      else ∃ m, m < n ∧ I m s₃) (fun _ _ => False) s₂) (fun _ _ => False) s₁) (fun _ _ => False) s₁) (fun _ _ => False) s)
  (n : Nat) (h : I n s) : codeAny (model prog w) A (.compLoop (.ListComp elt [⟨target, iter, ifs, 0⟩] scope pos) 0 it acc env) R s := by
 refine codeAny_loop rfl I (fun n s hI => ?_) n h
 show wpAny _ A ((compTurn (.ListComp elt [⟨target, iter, ifs, 0⟩] scope pos) 0 it acc env).onRaise (fun x => do noteFrame x env; theTreesLotGoes x)) _ _ s
 refine wpAny_noted (wpAny_noRaise ?_)
 rw [compTurn_list]
 refine wpAny_bind (wpAny_standAt (wpAny_bind (wpAny_mono (turn n s hI) (fun r s₁ h₁ => ?_) fun _ _ h' => h')))
 cases r with
 | none => exact wpAny_pure h₁
 | some v =>
  refine wpAny_bind (wpAny_mono h₁ (fun _ s₁ h₁ => ?_) fun _ _ h' => h')
  refine wpAny_bind (wpAny_mono h₁ (fun _ s₂ h₂ => wpAny_bind (wpAny_mono h₂ (fun ok s₃ h₃ => ?_) fun _ _ h' => h')) fun _ _ h' => h')
  cases ok with
  | false => exact wpAny_pure ⟨rfl, h₃⟩
  | true =>
   exact wpAny_bind (wpAny_bind (wpAny_mono h₃ (fun x s₄ h₄ => wpAny_bind (wpAny_mono h₄ (fun _ s₅ h₅ => wpAny_pure (wpAny_pure ⟨rfl, h₅⟩)) fun _ _ h' => h')) fun _ _ h' => h'))
end
end L2

namespace L2
open PySem PySem.Spec PyProof.Rows
structure TurnX (G : Cx → Prop) (P : Program) (w : World) (K : PySem.W.Frag) (tg : Expr) (J : It) (fp : List Addr) (it : Addr) (tn : Nat → Heap → Prop) : Prop where
 obj : ∀ i h, tn i h → ∀ b ∈ fp, ∃ o, h.get? b = some o ∧ ∀ v, o.data ≠ .cell v
 keep : ∀ i h h', tn i h → (∀ b ∈ fp, ∀ o, h.get? b = some o → h'.get? b = some o) → tn i h'
 item : ∀ (X : Cx), X.prog = P → X.w = w → X.K = K → G X → ∀ (i : Nat) (pins : List (Addr × Obj)) (s : Shared) (σ : St) (H : Hp) (E : Value → Shared → Prop), Inv X pins σ H s → (∀ b ∈ fp, FpOk X pins H b) → tn i s.heap → J.go i H →
  wpAny (model P w) X.A (pyNext (.ref it)) (fun r s1 => ∃ u, r = some u ∧
   wpAny (model P w) X.A (letOwnedTupleGo tg (.ref it) u) (fun _ s2 => ∃ x H', Inv X pins σ H' s2 ∧ RelV x u ∧ J.yld i H x H' ∧ tn (i + 1) s2.heap ∧ ∀ b ∈ fp, H' b = none) E s1) E s
 done : ∀ (X : Cx), X.prog = P → X.w = w → X.K = K → G X → ∀ (i : Nat) (pins : List (Addr × Obj)) (s : Shared) (σ : St) (H : Hp) (E : Value → Shared → Prop), Inv X pins σ H s → (∀ b ∈ fp, FpOk X pins H b) → tn i s.heap → J.stop i H →
  wpAny (model P w) X.A (pyNext (.ref it)) (fun r s1 => r = none ∧ Inv X pins σ H s1) E s
 self : ∀ (A : Around) (i : Nat) (s : Shared) (Q : Value → Shared → Prop) (E : Value → Shared → Prop), tn i s.heap → Q (.ref it) s → wpAny (model P w) A (pyIter (.ref it)) Q E s
theorem Turn.x {P : Program} {w : World} {K : PySem.W.Frag} {tg : Expr} {J : It} {fp : List Addr} {it : Addr} {tn : Nat → Heap → Prop} (T : Turn P w K tg J fp it tn) : TurnX (fun X => X.calm = true) P w K tg J fp it tn := ⟨T.obj, T.keep, T.item, T.done, T.self⟩
section
variable {X : Cx} {sc : Scope} {own : List Str} {fr : List Nat} {N' : List Str} {tg elt iter : Expr} {ifs : List Expr} {g : TG} {tt : TT} {te : TE} {wi : TI} {pos : Pos}
theorem zagc {G : Cx → Prop} {pins : List (Addr × Obj)} {σ : St} {H : Hp} {s2 : Shared} {it : Addr} {fp : List Addr} {tn : Nat → Heap → Prop} {J : It} {QQ : List V → Hp → Prop} {cl : List (Str × Addr)} {RR : Value → Addr → Result → Shared → Prop} {E : Value → Shared → Prop}
  (I2 : Inv X pins σ H s2) (hc : ∀ cl C s H fp, G (cxC X sc cl N' C s H fp)) (T : TurnX G X.prog X.w X.K tg J fp it tn) (st : tn 0 s2.heap) (f2 : ∀ b ∈ fp, FpOk X pins H b) (cs : CompOk sc X.env.scope own X.N fr N')
  (h1 : ∀ x c, cl.lookup x = some c → X.env.cells.lookup x = some c) (h2 : ∀ y ∈ sc.names, y.2 = .free → ∃ c, cl.lookup y.1 = some c)
  (hg : ∀ cl C s H fp, PG (cxC X sc cl N' C s H fp) tg g) (hif : ∀ cl C s H fp, PIf (cxC X sc cl N' C s H fp) ifs tt) (he : ∀ cl C s H fp, PE (cxC X sc cl N' C s H fp) elt te)
  (KK : Comp J g tt te QQ (cst own.length fr σ) H)
  (hRR : ∀ D C m H' ys s', s2.heap.objs.size ≤ C → s'.heap.Ns C m → H' D = none → (upd H' D (.lst ys)) C = none → QQ ys H' → Inv X pins σ (upd H' D (.lst ys)) s' → RR (.ref D) C (.ok .next) s') :
  wpAny (model X.prog X.w) X.A (newList []) (fun acc s₃ => wpAny (model X.prog X.w) X.A (newFunctionEnv sc X.env.globals cl [] X.env.qual none .none (some X.env)) (fun cenv s₄ =>
   codeAny (model X.prog X.w) X.A (.compStart (.ListComp elt [⟨tg, iter, ifs, 0⟩] sc pos) 0 (.ref it) acc { cenv with scope := relabel sc X.env }) (RR acc cenv.locals) s₄) E s₃) E s2 := by
 refine wpAny_newObj_type (wpAny_newFunctionEnv cs.nocell (by intro y hy; simp at hy) (fun h₁ hns₁ hsb₁ => ?_) cs.kind)
 dsimp only at hns₁ hsb₁ ⊢
 generalize hH2 : s2.heap.push { cls := .type "list", dict := none, data := .seq ([] : List Value).toArray } = H2 at hns₁ hsb₁ ⊢
 have hC : H2.objs.size = s2.heap.objs.size + 1 := by rw [← hH2, Heap.size_push]
 have hDC : s2.heap.objs.size ≠ H2.objs.size := by rw [hC]; exact Nat.ne_of_lt (Nat.lt_succ_self _)
 have hCle : s2.heap.objs.size ≤ H2.objs.size := by rw [hC]; exact Nat.le_succ _
 have below : ∀ b, b < s2.heap.objs.size → b ≠ H2.objs.size ∧ b ≠ s2.heap.objs.size := fun b hb => ⟨by rw [hC]; exact Nat.ne_of_lt (Nat.lt_succ_of_lt hb), Nat.ne_of_lt hb⟩
 have old : ∀ b o, s2.heap.get? b = some o → h₁.get? b = some o := fun b o e => hsb₁.extBut b o (below b (Heap.lt_size e)).1 (Heap.get?_push_of_some _ (hH2 ▸ Heap.get?_push_of_some _ e))
 have hacc : h₁.get? s2.heap.objs.size = some { cls := .type "list", data := .seq ([] : List Value).toArray 0 } := hsb₁.extBut _ _ hDC (Heap.get?_push_of_some _ (hH2 ▸ Heap.get?_push_size _ rfl))
 have fpo : ∀ b ∈ fp, FpOk X pins H b ∧ ∃ o, s2.heap.get? b = some o := fun b hb => ⟨f2 b hb, let ⟨o, e, _⟩ := T.obj 0 _ st b hb; ⟨o, e⟩⟩
 have st1 : tn 0 h₁ := T.keep _ _ _ st fun b hb o e => old b o e
 have hns : h₁.Ns H2.objs.size fun _ => none := by simpa using hns₁
 obtain ⟨W, ⟨m0, w0⟩, turn⟩ := KK.ex
 have loop : ∀ s₃ : Shared, s₃ = { s2 with heap := h₁, toks := s2.toks + ([] : List (Str × Value)).length } →
   codeAny (model X.prog X.w) X.A (.compLoop (.ListComp elt [⟨tg, iter, ifs, 0⟩] sc pos) 0 (.ref it) (.ref s2.heap.objs.size) (compEnvC sc cl H2.objs.size X.env)) (RR (.ref s2.heap.objs.size) H2.objs.size) s₃ := by
  rintro s₃ rfl
  have J0 : Inv (cxC X sc cl N' H2.objs.size s2 H fp) [(s2.heap.objs.size, { cls := .type "list", data := .seq ([] : List Value).toArray 0 })] (cst own.length fr σ) H { s2 with heap := h₁, toks := s2.toks + ([] : List (Str × Value)).length } :=
   zaiu I2 cs h1 h2 fpo hCle (Nat.le_refl _) hDC old hns hacc (fun v z => by cases z)
  have stat : ∀ {pl : List (Addr × Obj)} {H' : Hp}, (∀ p ∈ pl, p.1 = s2.heap.objs.size) → (∀ b ∈ fp, H' b = none) → ∀ b ∈ fp, FpOk (cxC X sc cl N' H2.objs.size s2 H fp) pl H' b := fun {pl H'} hpl hn b hb => by
   obtain ⟨f, ob, e⟩ := fpo b hb
   refine ⟨hn b hb, (below b (Heap.lt_size e)).1, fun z => ?_, .inl hb, fun x c ec => f.2.2.2.2.1 x c (h1 x c ec), fun p hp => ?_⟩
   ·have z' : b ∈ frs X.stack := z
    rcases List.mem_cons.mp (I2.stkSub b z') with q | q
    ·exact f.2.1 q
    ·exact f.2.2.1 q
   ·have hp' : p ∈ pl := hp
    rw [hpl p hp']
    exact Ne.symm (below b (Heap.lt_size e)).2
  have one : ∀ (o : Obj), ∀ p ∈ [(s2.heap.objs.size, o)], p.1 = s2.heap.objs.size := fun o p hp => by
   have : p = (s2.heap.objs.size, o) := by simpa using hp
   rw [this]
  refine zah3 (env := compEnvC sc cl H2.objs.size X.env) (fun n s' => ∃ i ys its k σ' H', Inv (cxC X sc cl N' H2.objs.size s2 H fp) [(s2.heap.objs.size, { cls := .type "list", data := .seq (its : List Value).toArray k })] σ' H' s' ∧ tn i s'.heap ∧ (∀ b ∈ fp, H' b = none) ∧ Vals ys its ∧ W i n ys σ' H')
   ?_ m0 ⟨0, [], [], 0, _, H, J0, st1, fun b hb => (f2 b hb).1, .nil, w0⟩
  rintro n s3 ⟨i, ys, its, k, σ3, H3, I3, st3, fr3, rv, w3⟩
  obtain ⟨hlen, alt⟩ := turn i n ys σ3 H3 w3
  rcases alt with ⟨stop, qn⟩ | ⟨go, N, hN, step⟩
  ·refine wpAny_mono (T.done (cxC X sc cl N' H2.objs.size s2 H fp) rfl rfl rfl (hc _ _ _ _ _) i _ s3 σ3 H3 (fun _ _ => False) I3 (stat (one _) fr3) st3 stop) (fun r s4 ⟨hr, I4⟩ => ?_) fun _ _ z => z
   subst hr
   obtain ⟨m, hm, _⟩ := I4.loc
   have hDn : H3 s2.heap.objs.size = none := (I4.pin (s2.heap.objs.size, { cls := .type "list", data := .seq its.toArray k }) (List.mem_append_right _ List.mem_cons_self)).2.1
   exact hRR _ _ m H3 ys s4 hCle hm hDn (by rw [zaaw (Ne.symm hDC)]; exact I4.free) qn (zal4 I2 fpo (Nat.le_refl _) I4 rv (Nat.le_of_lt hlen))
  ·refine wpAny_mono (T.item (cxC X sc cl N' H2.objs.size s2 H fp) rfl rfl rfl (hc _ _ _ _ _) i _ s3 σ3 H3 (fun _ _ => False) I3 (stat (one _) fr3) st3 go) (fun r s4 ⟨u, hr, h4⟩ => ?_) fun _ _ z => z
   subst hr
   refine wpAny_mono h4 (fun _ s5 ⟨x, H5, I5, r5, y5, st5, fr5⟩ => ?_) fun _ _ z => z
   have I5' := I5.pinned (stat (one _) fr5) (T.obj _ _ st5)
   refine wpAny_mono (hg cl H2.objs.size s2 H fp _ s5 σ3 H5 x u _ I5' r5 (step x H5 y5)) (fun _ s6 ⟨σ6, H6, I6, q6⟩ => ?_) fun _ _ z => z
   refine wpAny_mono (hif cl H2.objs.size s2 H fp _ s6 σ6 H6 _ I6 q6) (fun b s7 ⟨H7, I7, q7⟩ => ?_) fun _ _ z => z
   have fps : ∀ {σ8 : St} {H8 : Hp} {s8 : Shared}, Inv (cxC X sc cl N' H2.objs.size s2 H fp) ([(s2.heap.objs.size, { cls := .type "list", data := .seq its.toArray k })] ++ pinsAt fp s5.heap) σ8 H8 s8 →
     tn (i + 1) s8.heap ∧ ∀ b ∈ fp, H8 b = none := fun {σ8 H8 s8} I8 => by
    refine ⟨T.keep _ _ _ st5 fun b hb o e => (I8.pin (b, o) (List.mem_append_right _ (List.mem_append_right _ (zadg hb e)))).1, fun b hb => ?_⟩
    obtain ⟨o, e, d⟩ := T.obj _ _ st5 b hb
    exact (I8.pin (b, o) (List.mem_append_right _ (List.mem_append_right _ (zadg hb e)))).2.1
   cases b with
   | false =>
    obtain ⟨m', hm, w7⟩ := hN ys σ6 H7 q7
    exact ⟨m', hm, i + 1, ys, its, k, σ6, H7, I7.unpinned, (fps I7).1, (fps I7).2, rv, w7⟩
   | true =>
    have q7' : te σ6 H7 fun y H4 => N (ys ++ [y]) σ6 H4 := q7
    refine wpAny_mono (he cl H2.objs.size s2 H fp _ s7 σ6 H7 _ I7 q7') (fun uy s8 ⟨y, H8, I8, r8, n8⟩ => ?_) fun _ _ z => z
    obtain ⟨m', hm, w8⟩ := hN _ _ _ n8
    obtain ⟨hDo, hDn, hDL, hDf, _⟩ := I8.pin (s2.heap.objs.size, { cls := .type "list", data := .seq its.toArray k }) (List.mem_append_right _ (List.mem_append_left _ List.mem_cons_self))
    have hys : its.toArray.size ≤ sizeLine := by rw [List.size_toArray, ← rv.length]; exact Nat.le_of_lt hlen
    refine wpAny_list_append_plain (hsz := hys) (⟨k, hDo⟩ : s8.heap.PlainList s2.heap.objs.size its.toArray) fun h9 ⟨k', hl9⟩ hs9 => ?_
    have hDp : ∀ p ∈ (cxC X sc cl N' H2.objs.size s2 H fp).pn ++ pinsAt fp s5.heap, p.1 ≠ s2.heap.objs.size := fun p hp => by
     have hp' : p ∈ pinsAt fp s5.heap := by
      have hp2 : p ∈ ([] : List (Addr × Obj)) ++ pinsAt fp s5.heap := hp
      simpa using hp2
     obtain ⟨hb, _⟩ := zahp hp'
     obtain ⟨_, ob, e⟩ := fpo p.1 hb
     exact (below p.1 (Heap.lt_size e)).2
    have I8' : Inv (cxC X sc cl N' H2.objs.size s2 H fp) (pinsAt fp s5.heap) σ6 H8 s8 := I8.pins_of fun p hp => I8.pin p (List.mem_append_right _ (List.mem_append_right _ hp))
    have I9 : Inv (cxC X sc cl N' H2.objs.size s2 H fp) (pinsAt fp s5.heap) σ6 H8 { s8 with heap := h9 } := I8'.turned (t' := s8.toks) (it := s2.heap.objs.size) (fun b o hb e => (hs9.2 b hb).trans e) hDn hDL (.inr (Nat.le_refl _))
     (fun x c e z => by
      obtain ⟨v, q⟩ := I2.cell x c (h1 x c e)
      have := q.lt
      rw [z] at this
      exact absurd this (Nat.lt_irrefl _)) hDp
    have key := fps I8
    refine ⟨m', hm, i + 1, ys ++ [y], its ++ [uy], k', σ6, H8, I9.pins_of fun p hp => ?_, T.keep _ _ _ key.1 fun b hb o e => ?_, key.2, rv.append (.cons r8 .nil), w8⟩
    ·have e : p = (s2.heap.objs.size, { cls := .type "list", data := .seq (its ++ [uy]).toArray k' }) := by simpa using hp
     subst e
     refine ⟨?_, hDn, hDL, hDf, fun v z => by cases z⟩
     have : (its ++ [uy]).toArray = its.toArray.push uy := by simp
     rw [this]; exact hl9
    ·obtain ⟨_, ob, e2⟩ := fpo b hb
     exact (hs9.2 b (below b (Heap.lt_size e2)).2).trans e
 exact codeAny_compStart_list (loop _ rfl) (wpAny_mono (T.self X.A 0 _ (fun it' s' => it' = .ref it ∧ s' = { s2 with heap := h₁, toks := s2.toks + ([] : List (Str × Value)).length }) _ st1 ⟨rfl, rfl⟩) (fun it' s' ⟨e1, e2⟩ => by subst e1 e2; exact loop _ rfl) fun _ _ z => z)
def tComp (n : Nat) (fr : List Nat) (wi : TI) (g : TG) (tt : TT) (te : TE) : TE := fun σ H Q => wi σ H fun J H1 => Comp J g tt te (fun ys H2 => ∀ D, H2 D = none → Q (.ref D) (upd H2 D (.lst ys))) (cst n fr σ) H1
theorem zar1 (hc : X.calm = true) (cs : CompOk sc X.env.scope own X.N fr N') (hi : PI X tg iter wi) (hg : ∀ cl C s H fp, PG (cxC X sc cl N' C s H fp) tg g) (hif : ∀ cl C s H fp, PIf (cxC X sc cl N' C s H fp) ifs tt)
  (he : ∀ cl C s H fp, PE (cxC X sc cl N' C s H fp) elt te) (hs : ∀ x, foldedSetIterable iter X.env x = pure x := by intro _; rfl) : PE X (.ListComp elt [⟨tg, iter, ifs, 0⟩] sc pos) (tComp own.length fr wi g tt te) := by
 intro pins s σ H Q I h
 obtain ⟨cl, ecl, h1, h2⟩ := zafc (env := X.env) (sc := sc) fun y hy hf => I.ok.has y.1 (cs.fre y hy hf)
 rw [eval_ListComp]
 refine wpAny_comprehension_free (use := none) rfl hs ecl cs.kind cs.loc (thn (hi pins s σ H _ I h) fun v s1 q1 => thn q1 fun itv s2 q2 => ?_)
 obtain ⟨it, fp, tn, J, H2, rfl, I2, T, st, f2, KK⟩ := q2
 refine zagc (RR := fun acc C => compPost (model X.prog X.w) X.A X.xe none (EP X pins σ Q) acc C) I2 (fun _ _ _ _ _ => hc) T.x st f2 cs h1 h2 hg hif he KK fun D C m H' ys s' hC hn hD hCn hq I' => ?_
 refine ⟨m, hn, fun h' hs' => ⟨.ref D, upd H' D (.lst ys), ?_, rfl, hq D hD⟩⟩
 obtain ⟨f0, f1, f2, f3, f4, f5⟩ := I2.fpOk hC hCn
 exact I'.turned (t' := s'.toks) (it := C) (fun b o hb e => (hs'.2 b hb).trans e) f0 (Ne.symm (Ne.symm f1)) f3 f4 f5
def tSetC (i n : Nat) (fr : List Nat) (wi : TI) (g : TG) (tt : TT) (te : TE) : TS := fun D σ H => wi σ H fun J H1 => Comp J g tt te (fun ys H2 => ∀ p, H2 p = none → D.nx (σ.set i (some (.ref p))) (upd H2 p (.lst ys))) (cst n fr σ) H1
theorem zar2 {i : Nat} {y : Str} {py spos : Pos} (hN : X.N.Nodup) (hy : X.N[i]? = some y) (hx : Loc X.env.scope y) (hc : X.calm = true) (cs : CompOk sc X.env.scope own X.N fr N') (hi : PI X tg iter wi)
  (hg : ∀ cl C s H fp, PG (cxC X sc cl N' C s H fp) tg g) (hif : ∀ cl C s H fp, PIf (cxC X sc cl N' C s H fp) ifs tt) (he : ∀ cl C s H fp, PE (cxC X sc cl N' C s H fp) elt te)
  (hsw : swapsWith (.ListComp elt [⟨tg, iter, ifs, 0⟩] sc pos) (some (.Name y py)) spos.line X.env = pure true) (hfn : X.fn y = true ∨ X.env.scope.names.lookup y = some .local := by first | exact .inl rfl | exact .inr rfl | assumption) (hs : ∀ x, foldedSetIterable iter X.env x = pure x := by intro _; rfl) :
  PS X (.Assign [.Name y py] (.ListComp elt [⟨tg, iter, ifs, 0⟩] sc pos) spos) (tSetC i own.length fr wi g tt te) := by
 intro pins s σ H D I h
 obtain ⟨cl, ecl, h1, h2⟩ := zafc (env := X.env) (sc := sc) fun y hy hf => I.ok.has y.1 (cs.fre y hy hf)
 rw [exec_Assign_Name_used _ _ _ _ hsw]
 refine wpAny_bind (wpAny_standAt (wpAny_bind ?_))
 show wpAny _ X.A (do let _ ← comprehension (.ListComp elt [⟨tg, iter, ifs, 0⟩] sc pos) sc X.env _ (newList []) false (eval iter X.env) (some (assign (.Name y py) X.env))) _ _ s
 refine wpAny_bind (wpAny_mono (wpAny_comprehension_free (use := some (assign (.Name y py) X.env)) (Q := fun _ s' => ∃ σ' H', Inv X pins σ' H' s' ∧ D.nx σ' H') rfl hs ecl cs.kind cs.loc (thn (hi pins s σ H _ I h) fun v s1 q1 => thn q1 fun itv s2 q2 => ?_))
  (fun _ s' hq => wpAny_pure (wpAny_pure hq)) fun _ _ e => e)
 obtain ⟨it, fp, tn, J, H2, rfl, I2, T, st, f2, KK⟩ := q2
 refine zagc (RR := fun acc C => compPost (model X.prog X.w) X.A X.xe (some (assign (.Name y py) X.env)) (fun _ s' => ∃ σ' H', Inv X pins σ' H' s' ∧ D.nx σ' H') acc C) I2 (fun _ _ _ _ _ => hc) T.x st f2 cs h1 h2 hg hif he KK fun p C m H' ys s' hC hn hD hCn hq I' => ?_
 obtain ⟨f0, f1, f2, f3, f4, f5⟩ := I2.fpOk hC hCn
 show wpAny _ X.A (assign (.Name y py) X.env (.ref p)) _ _ _
 refine wpAny_assign_Name (zaho (v := .ref p) I' hN hy hx rfl (fun s'' I'' ⟨a, hsa, ha⟩ => ?_) hfn)
 have hCa : C ≠ a := by
  rcases ha with z | z
  ·rw [z]; exact f1
  ·exact Ne.symm (f4 y a z)
 refine ⟨m, hn.sameBut hsa hCa, fun h' hs' => ⟨_, _, ?_, hq p hD⟩⟩
 exact I''.turned (t' := s''.toks) (it := C) (fun b o hb e => (hs'.2 b hb).trans e) f0 f1 f3 f4 f5
end
theorem zaeg {J : It} {g : TG} {tt : TT} {te : TE} {Q : List V → Hp → Prop} {σ : St} {H : Hp} (n : Nat) (Pv : Nat → List V → St → Hp → Prop) (h0 : Pv 0 [] σ H) (hl : ∀ i ys σ H, i ≤ n → Pv i ys σ H → ys.length < sizeLine)
  (go : ∀ i ys σ H, i < n → Pv i ys σ H → J.go i H) (stop : ∀ ys σ H, Pv n ys σ H → J.stop n H)
  (turn : ∀ i ys σ H, i < n → Pv i ys σ H → ∀ x H', J.yld i H x H' → g x σ H' fun σ2 H2 => tt σ2 H2 fun b H3 => if b = true then te σ2 H3 fun y H4 => Pv (i + 1) (ys ++ [y]) σ2 H4 else Pv (i + 1) ys σ2 H3)
  (after : ∀ ys σ H, Pv n ys σ H → Q ys H) : Comp J g tt te Q σ H := by
 refine ⟨fun i m ys σ H => i ≤ n ∧ m = n - i ∧ Pv i ys σ H, ⟨n, Nat.zero_le _, rfl, h0⟩, fun i m ys σ H ⟨hi, hm, p⟩ => ⟨hl i ys σ H hi p, ?_⟩⟩
 rcases Nat.lt_or_ge i n with h | h
 ·exact .inr ⟨go i ys σ H h p, Pv (i + 1), fun ys' σ' H' q => ⟨n - (i + 1), by omega, h, rfl, q⟩, turn i ys σ H h p⟩
 ·have e : i = n := Nat.le_antisymm hi h
  subst e
  exact .inl ⟨stop ys σ H p, after ys σ H p⟩
theorem zadh {lo : Int} {n : Nat} {g : TG} {tt : TT} {te : TE} {Q : List V → Hp → Prop} {σ : St} {H : Hp} (Pv : Nat → List V → St → Hp → Prop) (hn : n < sizeLine) (h0 : Pv 0 [] σ H) (hl : ∀ i ys σ H, i ≤ n → Pv i ys σ H → ys.length ≤ i)
  (turn : ∀ i ys σ H, i < n → Pv i ys σ H → g (.int (lo + i)) σ H fun σ2 H2 => tt σ2 H2 fun b H3 => if b = true then te σ2 H3 fun y H4 => Pv (i + 1) (ys ++ [y]) σ2 H4 else Pv (i + 1) ys σ2 H3)
  (after : ∀ ys σ H, Pv n ys σ H → Q ys H) : Comp (Itr lo n) g tt te Q σ H :=
 zaeg n Pv h0 (fun i ys σ H hi p => Nat.lt_of_le_of_lt (Nat.le_trans (hl i ys σ H hi p) hi) hn) (fun i _ _ _ hi _ => hi) (fun _ _ _ _ => Nat.le_refl _) (fun i ys σ H hi p x H' y => by obtain ⟨rfl, rfl⟩ := y; exact turn i ys σ _ hi p) after
theorem zab4 {K : PySem.W.Frag} {a : Addr} (xs : List V) {g : TG} {tt : TT} {te : TE} {Q : List V → Hp → Prop} {σ : St} {H : Hp} (Pv : Nat → List V → St → Hp → Prop) (hn : xs.length < sizeLine) (h0 : Pv 0 [] σ H) (hl : ∀ i ys σ H, i ≤ xs.length → Pv i ys σ H → ys.length ≤ i ∧ SqL K H a xs)
  (turn : ∀ i ys σ H x, xs[i]? = some x → Pv i ys σ H → g x σ H fun σ2 H2 => tt σ2 H2 fun b H3 => if b = true then te σ2 H3 fun y H4 => Pv (i + 1) (ys ++ [y]) σ2 H4 else Pv (i + 1) ys σ2 H3)
  (after : ∀ ys σ H, Pv xs.length ys σ H → Q ys H) : Comp (Itl K a) g tt te Q σ H :=
 zaeg xs.length Pv h0 (fun i ys σ H hi p => Nat.lt_of_le_of_lt (Nat.le_trans (hl i ys σ H hi p).1 hi) hn) (fun i ys σ H hi p => ⟨xs, xs[i], (hl i ys σ H (Nat.le_of_lt hi) p).2, List.getElem?_eq_getElem hi⟩)
  (fun ys σ H p => ⟨xs, (hl _ ys σ H (Nat.le_refl _) p).2, Nat.le_refl _⟩) (fun i ys σ H hi p x H' y => by obtain ⟨rfl, y⟩ := y; exact turn i ys σ _ x (y xs (hl i ys σ _ (Nat.le_of_lt hi) p).2) p) after
theorem zagm {K : PySem.W.Frag} {a : Addr} (xs : List V) {g : TG} {tt : TT} {te : TE} {Q : List V → Hp → Prop} {σ : St} {H : Hp} (Pv : Nat → List V → St → Hp → Prop) (hn : xs.length < sizeLine) (h0 : Pv 0 [] σ H) (hl : ∀ i ys σ H, i ≤ xs.length → Pv i ys σ H → ys.length ≤ i ∧ SqT K H a xs)
  (turn : ∀ i ys σ H x, xs[i]? = some x → Pv i ys σ H → g x σ H fun σ2 H2 => tt σ2 H2 fun b H3 => if b = true then te σ2 H3 fun y H4 => Pv (i + 1) (ys ++ [y]) σ2 H4 else Pv (i + 1) ys σ2 H3)
  (after : ∀ ys σ H, Pv xs.length ys σ H → Q ys H) : Comp (Itt K a) g tt te Q σ H :=
 zaeg xs.length Pv h0 (fun i ys σ H hi p => Nat.lt_of_le_of_lt (Nat.le_trans (hl i ys σ H hi p).1 hi) hn) (fun i ys σ H hi p => ⟨xs, xs[i], (hl i ys σ H (Nat.le_of_lt hi) p).2, List.getElem?_eq_getElem hi⟩)
  (fun ys σ H p => ⟨xs, (hl _ ys σ H (Nat.le_refl _) p).2, Nat.le_refl _⟩) (fun i ys σ H hi p x H' y => by obtain ⟨rfl, y⟩ := y; exact turn i ys σ _ x (y xs (hl i ys σ _ (Nat.le_of_lt hi) p).2) p) after
end L2

namespace L2
open PySem PySem.Spec PyProof.Rows
open AutoSeq1 (wpAny_loadPart') in
set_option maxHeartbeats 4000000 in
theorem zafd (k : SK) (l : Addr) (xs : Array Value) :
  Meets (Builtin.«enumerate.__new__» ⟨[.type "enumerate", .ref l], []⟩) (fun _ R s => SIs k s.heap l xs ∧
   R (.ok (.ret (.ref (s.heap.push (itObj k l)).objs.size))) { s with heap := (s.heap.push (itObj k l)).push { cls := .type "enumerate", data := .fields #[.none, .bool false, .ref s.heap.objs.size, rawInt 0, .none, .none] } }) := by
 cases k with
 | list =>
  exact .of_wp fun prog w A R s h => by
   obtain ⟨hp, g, d, tk, os⟩ := s; obtain ⟨hL, h⟩ := h
   have hsub := sub_enumerate
   have hL : Heap.IsList (Shared.heap ⟨hp, g, d, tk, os⟩) l xs := hL
   obtain ⟨ol, hl, hlc, nl, hld⟩ := id hL
   wp_walk using wpAny_loadPart' hl
   refine wpAny_stack_any fun st => wpAny_pure ?_
   split
   ·rename_i c _ _ _ _ _
    cases (c == Value.type "enumerate")
    ·wp_walk using wpAny_loadPart' hl, wpAny_pyIter_list hL
     exact ⟨_, rfl, h⟩
    ·wp_walk using wpAny_loadPart' hl, wpAny_pyIter_list hL
     exact ⟨_, rfl, h⟩
   ·wp_walk using wpAny_loadPart' hl, wpAny_pyIter_list hL
    exact ⟨_, rfl, h⟩
 | tuple =>
  exact .of_wp fun prog w A R s h => by
   obtain ⟨hp, g, d, tk, os⟩ := s; obtain ⟨hL, h⟩ := h
   have hsub := sub_enumerate
   have hL : Heap.IsTuple (Shared.heap ⟨hp, g, d, tk, os⟩) l xs := hL
   obtain ⟨ol, hl, hlc, nl, hld⟩ := id hL
   wp_walk using wpAny_loadPart' hl
   refine wpAny_stack_any fun st => wpAny_pure ?_
   split
   ·rename_i c _ _ _ _ _
    cases (c == Value.type "enumerate")
    ·wp_walk using wpAny_loadPart' hl, wpAny_pyIter_tuple hL
     exact ⟨_, rfl, h⟩
    ·wp_walk using wpAny_loadPart' hl, wpAny_pyIter_tuple hL
     exact ⟨_, rfl, h⟩
   ·wp_walk using wpAny_loadPart' hl, wpAny_pyIter_tuple hL
    exact ⟨_, rfl, h⟩
section
variable {prog : Program} {w : World} {A : Around} {E : Value → Shared → Prop} {s : Shared}
theorem zakq {k : SK} {l : Addr} {xs : Array Value} {Q : Value → Shared → Prop} (hL : SIs k s.heap l xs)
  (h : ∀ h', IsEnum h' (s.heap.objs.size + 1) s.heap.objs.size 0 .none → SIt k h' s.heap.objs.size l 0 → (∀ b o, s.heap.get? b = some o → h'.get? b = some o) → Q (.ref (s.heap.objs.size + 1)) { s with heap := h' }) :
  wpAny (model prog w) A (call (.type "enumerate") [.ref l]) Q E s := by
 refine callType_new F.called_enumerate (by decide) (F.typeCall_enumerate_1 _) (F.newCall_enumerate_1 _) (fun obj => F.args_object_init_2 obj _) F.entry_enumerate_new (zafd k l xs) ⟨hL, ?_⟩
 have hz : (s.heap.push (itObj k l)).objs.size = s.heap.objs.size + 1 := Heap.size_push ..
 have r1 : (itObj k l).isFreed = false := by cases k <;> rfl
 have he := Heap.get?_push_size (s.heap.push (itObj k l)) (o := { cls := .type "enumerate", data := .fields #[.none, .bool false, .ref s.heap.objs.size, rawInt 0, .none, .none] }) rfl
 rw [hz] at he
 show _ ∧ _
 rw [hz]
 exact ⟨⟨_, he, rfl⟩, h _ he (zagl (Heap.get?_push_of_some _ (Heap.get?_push_size _ r1))) fun b o x => Heap.get?_push_of_some _ (Heap.get?_push_of_some _ x)⟩
theorem zakr {k : SK} {e it l : Addr} {i : Nat} {items : Array Value} {x old : Value} {Q : Value → Shared → Prop}
  (he : IsEnum s.heap e it i old) (hit : SIt k s.heap it l i) (hl : SIs k s.heap l items) (hx : items[i]? = some x) (hne : e ≠ it)
  (hQ : ∀ h', IsEnumOut h' e it ((i : Int) + 1) x s.heap.objs.size → SIt k h' it l (i + 1) →
   h'.get? s.heap.objs.size = some { cls := .type "tuple", data := .seq #[.int i s.toks, x] } → h'.objs.size = s.heap.objs.size + 1 →
   (∀ b o, b ≠ e → b ≠ it → s.heap.get? b = some o → h'.get? b = some o) → Q (.ref s.heap.objs.size) { s with heap := h', toks := s.toks + 1 }) :
  wpAny (model prog w) A (Builtin.«enumerate.__next__» ⟨[.ref e], []⟩) (fun fin s' => ∃ v, fin = .done (.ret v) ∧ Q v s') E s := by
 obtain ⟨hp, g, d, tk, os⟩ := s
 show wpAny _ _ (field (.ref e) 2 >>= _) _ _ _
 refine wpAny_bind (wpAny_field he rfl (x := .ref it) rfl ?_)
 refine wpAny_bind (zac5 hit hl hx fun h₁ hit₁ hs₁ => ?_)
 replace hs₁ : Heap.SameBut it hp h₁ := hs₁
 have he₁ : IsEnum h₁ e it i old := (hs₁.2 e hne).trans he
 show wpAny _ _ (field (.ref e) 3 >>= _) _ _ ⟨h₁, g, d, tk, os⟩
 refine wpAny_bind (wpAny_field he₁ rfl (x := rawInt i) rfl ?_)
 show wpAny _ _ (field (.ref e) 4 >>= _) _ _ ⟨h₁, g, d, tk, os⟩
 refine wpAny_bind (wpAny_field he₁ rfl (x := .none) rfl ?_)
 show wpAny _ _ (mkInt i >>= _) _ _ ⟨h₁, g, d, tk, os⟩
 refine wpAny_bind (wpAny_mkInt ?_)
 show wpAny _ _ (setField (.ref e) 3 (rawInt ((i : Int) + 1)) >>= _) _ _ ⟨h₁, g, d, tk + 1, os⟩
 refine wpAny_bind (wpAny_setField_rec he₁ (by simp) fun h₂ he₂ hs₂ => ?_)
 replace hs₂ : Heap.SameBut e h₁ h₂ := hs₂
 replace he₂ : IsEnum h₂ e it ((i : Int) + 1) old := he₂
 show wpAny _ _ (setField (.ref e) 4 .none >>= _) _ _ ⟨h₂, g, d, tk + 1, os⟩
 refine wpAny_bind (wpAny_setField_rec he₂ (by simp) fun h₃ he₃ hs₃ => ?_)
 replace hs₃ : Heap.SameBut e h₂ h₃ := hs₃
 replace he₃ : IsEnum h₃ e it ((i : Int) + 1) old := he₃
 show wpAny _ _ (newTuple [.int i tk, x] >>= _) _ _ ⟨h₃, g, d, tk + 1, os⟩
 refine wpAny_bind (wpAny_newTuple ?_)
 have he₄ : IsEnum (h₃.push { cls := .type "tuple", data := .seq #[.int i tk, x] }) e it ((i : Int) + 1) old := Heap.get?_push_of_some _ he₃
 generalize hh₄ : h₃.push { cls := .type "tuple", data := .seq #[.int i tk, x] } = h₄ at he₄
 have hsz : h₃.objs.size = hp.objs.size := by rw [hs₃.1, hs₂.1, hs₁.1]
 have hel : e < hp.objs.size := Heap.lt_size he
 have ht₄ : h₄.get? hp.objs.size = some { cls := .type "tuple", data := .seq #[.int i tk, x] } := by rw [← hh₄, ← hsz]; exact Heap.get?_push_size _ rfl
 have hz₄ : h₄.objs.size = hp.objs.size + 1 := by rw [← hh₄, Heap.size_push, hsz]
 have hk₄ : ∀ b o, b ≠ e → b ≠ it → hp.get? b = some o → h₄.get? b = some o := fun b o hbe hbi hb => by
  rw [← hh₄]; exact Heap.get?_push_of_some _ (hs₃.extBut b o hbe (hs₂.extBut b o hbe (hs₁.extBut b o hbi hb)))
 have hit₄ : SIt k h₄ it l (i + 1) := by
  rw [← hh₄]; exact ((hit₁.ext hs₂.extBut (Ne.symm hne)).ext hs₃.extBut (Ne.symm hne)).at fun o ho => Heap.get?_push_of_some _ ho
 show wpAny _ _ (Builtin.SmallTypes.ownedTupleIsFree (.ref e) >>= _) _ _ ⟨h₄, g, d, tk + 1, os⟩
 rw [hsz]
 clear hh₄ he₃ hs₃ he₂ hs₂ he₁ hs₁ hit₁ hsz h₃ h₂ h₁
 refine wpAny_bind ?_
 ·unfold Builtin.SmallTypes.ownedTupleIsFree
  refine wpAny_bind (wpAny_field he₄ rfl (x := .none) rfl (wpAny_pure ?_))
  simp only [if_true]
  refine wpAny_bind (wpAny_rule ?_)
  refine wpAny_bind (wpAny_field he₄ rfl (x := old) rfl ?_)
  refine wpAny_bind (wpAny_setField_rec he₄ (by simp) fun h₅ he₅ hs₅ => ?_)
  replace hs₅ : Heap.SameBut e h₄ h₅ := hs₅
  replace he₅ : IsEnum h₅ e it ((i : Int) + 1) x := he₅
  show wpAny _ _ (Builtin.SmallTypes.ownedTupleHandOut (.ref e) (.ref hp.objs.size) >>= _) _ _ ⟨h₅, g, d, tk + 1, os⟩
  refine wpAny_bind ?_
  ·unfold Builtin.SmallTypes.ownedTupleHandOut
   refine wpAny_bind (wpAny_setField_rec he₅ (by simp) fun h₆ he₆ hs₆ => ?_)
   replace hs₆ : Heap.SameBut e h₅ h₆ := hs₆
   replace he₆ : IsEnumOut h₆ e it ((i : Int) + 1) x hp.objs.size := he₆
   refine wpAny_setField_rec he₆ (by simp) fun h₇ he₇ hs₇ => ?_
   replace hs₇ : Heap.SameBut e h₆ h₇ := hs₇
   replace he₇ : IsEnumOut h₇ e it ((i : Int) + 1) x hp.objs.size := he₇
   refine wpAny_bind (wpAny_letGo (wpAny_pure ⟨_, rfl, hQ h₇ he₇ ?_ ?_ ?_ ?_⟩))
   ·exact ((hit₄.ext hs₅.extBut (Ne.symm hne)).ext hs₆.extBut (Ne.symm hne)).ext hs₇.extBut (Ne.symm hne)
   ·exact hs₇.extBut _ _ (Nat.ne_of_gt hel) (hs₆.extBut _ _ (Nat.ne_of_gt hel) (hs₅.extBut _ _ (Nat.ne_of_gt hel) ht₄))
   ·rw [hs₇.1, hs₆.1, hs₅.1, hz₄]
   ·exact fun b o hbe hbi hb => hs₇.extBut b o hbe (hs₆.extBut b o hbe (hs₅.extBut b o hbe (hk₄ b o hbe hbi hb)))
theorem zaeh {k : SK} {e it l : Addr} {i : Nat} {items : Array Value} {x old : Value} {Q : Option Value → Shared → Prop}
  (he : IsEnum s.heap e it i old) (hit : SIt k s.heap it l i) (hl : SIs k s.heap l items) (hx : items[i]? = some x) (hne : e ≠ it)
  (hQ : ∀ h', IsEnumOut h' e it ((i : Int) + 1) x s.heap.objs.size → SIt k h' it l (i + 1) →
   h'.get? s.heap.objs.size = some { cls := .type "tuple", data := .seq #[.int i s.toks, x] } → h'.objs.size = s.heap.objs.size + 1 →
   (∀ b o, b ≠ e → b ≠ it → s.heap.get? b = some o → h'.get? b = some o) → Q (some (.ref s.heap.objs.size)) { s with heap := h', toks := s.toks + 1 }) :
  wpAny (model prog w) A (pyNext (.ref e)) Q E s := by
 have hT : s.TypeIs (.ref e) "enumerate" := ⟨_, he, rfl⟩
 unfold pyNext
 exact wpAny_bind (wpAny_attempt (wpAny_callSpecial?_slot (name := Str.ofString "__next__") hT F.slot_enumerate_next
  (wpAny_call_entry F.slot_enumerate_next hT F.entry_enumerate_next
   (zakr he hit hl hx hne fun h' a b c d k => wpAny_pure (hQ h' a b c d k)) (F.args_enumerate_next_1 _))))
theorem zaez {k : SK} {e it l : Addr} {i : Nat} {items : Array Value} {old : Value} {Q : Option Value → Shared → Prop} (hh : A.handled = none)
  (he : IsEnum s.heap e it i old) (hit : SIt k s.heap it l i) (hl : SIs k s.heap l items) (hx : items[i]? = none)
  (hQ : ∀ h', Heap.ExtBut it s.heap h' → Q none { s with heap := h' }) : wpAny (model prog w) A (pyNext (.ref e)) Q E s := by
 have hT : s.TypeIs (.ref e) "enumerate" := ⟨_, he, rfl⟩
 unfold pyNext
 refine wpAny_bind (wpAny_attempt (wpAny_callSpecial?_slot (name := Str.ofString "__next__") hT F.slot_enumerate_next
  (wpAny_call_entry F.slot_enumerate_next hT F.entry_enumerate_next ?_ (F.args_enumerate_next_1 _))))
 show wpAny _ _ (field (.ref e) 2 >>= _) _ _ _
 refine wpAny_bind (wpAny_field he rfl (x := .ref it) rfl ?_)
 refine wpAny_bind (zaee hh hit hl hx fun h' x he' hx' => ?_)
 obtain ⟨o, ho, hc⟩ := hx'
 refine wpAny_bind (wpAny_isInstance (T := "StopIteration") (b := true) ⟨o, ho, hc⟩ isSubtype_stop ?_)
 exact wpAny_pure (hQ _ he')
end
def Itn (K : PySem.W.Frag) (k : SK) (a : Addr) : It :=
 ⟨fun i H => ∃ xs x, Sq k K H a xs ∧ xs[i]? = some x,
  fun i H v H' => ∃ T, H T = none ∧ v = .ref T ∧ ∀ xs, Sq k K H a xs → ∃ x, xs[i]? = some x ∧ H' = upd H T (.tup [.int i, x]),
  fun i H => ∃ xs, Sq k K H a xs ∧ xs.length ≤ i⟩
theorem zal5 {P : Program} {w : World} {K : PySem.W.Frag} {elts : List Expr} {kk : Nat} {tpos : Pos} {k : SK} {e it a : Addr} (hne : e ≠ it) :
  Turn P w K (.Tuple elts kk tpos) (Itn K k a) [e, it] e (fun i h => (∃ old, IsEnum h e it i old) ∧ SIt k h it a i) where
 mem := by simp
 obj := fun i h st b hb => by
  obtain ⟨⟨old, he⟩, h1⟩ := st
  simp only [List.mem_cons, List.not_mem_nil, or_false] at hb
  rcases hb with rfl | rfl
  ·exact ⟨_, he, fun v q => nomatch q⟩
  ·exact h1.obj
 keep := fun i h h' st k => by
  obtain ⟨⟨old, he⟩, h1⟩ := st
  exact ⟨⟨old, k _ (by simp) _ he⟩, h1.at fun o e => k _ (by simp) o e⟩
 item := by
  intro X hP hw hK hc i pins s σ H E I hf st hg
  subst hP hw hK
  obtain ⟨⟨old, he⟩, h1⟩ := st
  obtain ⟨xs, x, q1, hx⟩ := hg
  obtain ⟨ix, rx, px⟩ := I.sis q1
  obtain ⟨u, hu, ru⟩ := rx.get hx
  refine zaeh he h1 px (x := u) (by simpa using hu) hne fun h' a1 a2 a3 a4 a5 => ?_
  refine ⟨_, rfl, wpAny_letOwnedTupleGo_enum (s := { s with heap := h', toks := s.toks + 1 }) a1 fun h'' b1 b2 => ?_⟩
  have elt : e < s.heap.objs.size := Heap.lt_size he
  have ilt : it < s.heap.objs.size := by obtain ⟨o, ho, _⟩ := h1.obj; exact Heap.lt_size ho
  have k2 : ∀ c o, c ∉ [e, it] → s.heap.get? c = some o → h''.get? c = some o := fun c o hc ec => by
   simp only [List.mem_cons, List.not_mem_nil, or_false, not_or] at hc
   exact b2.extBut _ _ hc.1 (a5 c o hc.1 hc.2 ec)
  have hT2 : h''.get? s.heap.objs.size = some { cls := .type "tuple", data := .seq #[.int i s.toks, u] } := b2.extBut _ _ (Nat.ne_of_gt elt) a3
  refine ⟨.ref s.heap.objs.size, upd H s.heap.objs.size (.tup [.int i, x]), I.turnedNew (t' := s.toks + 1) (o := .tup [.int i, x]) k2 hf (Nat.le_refl _)
   ⟨by show 2 ≤ sizeLine; decide, [.int i s.toks, u], .cons ⟨_, rfl⟩ (.cons ru .nil), ⟨_, hT2, rfl, _, rfl⟩⟩, rfl,
   ⟨_, I.hok.fresh (Nat.le_refl _), rfl, fun xs' e1 => ?_⟩, ⟨⟨u, by simpa using b1⟩, a2.at fun o eo => b2.extBut _ _ (Ne.symm hne) eo⟩, fun b hb => ?_⟩
  ·rw [I.sq_inj e1 q1]
   exact ⟨x, hx, rfl⟩
  ·have blt : b < s.heap.objs.size := by
    simp only [List.mem_cons, List.not_mem_nil, or_false] at hb
    rcases hb with rfl | rfl
    ·exact elt
    ·exact ilt
   rw [zaaw (Nat.ne_of_lt blt)]
   exact (hf b hb).1
 done := by
  intro X hP hw hK hc i pins s σ H E I hf st hg
  subst hP hw hK
  obtain ⟨⟨old, he⟩, h1⟩ := st
  obtain ⟨xs, q1, hl⟩ := hg
  obtain ⟨ix, rx, px⟩ := I.sis q1
  have l1 := rx.length
  refine zaez (I.ok.hd hc) he h1 px (by simp; omega) fun h' hk => ⟨rfl, I.turnedL (t' := s.toks) (its := [e, it]) (fun b o hb eb => ?_) hf⟩
  simp only [List.mem_cons, List.not_mem_nil, or_false, not_or] at hb
  exact hk b o hb.2 eb
 self := fun _ _ _ _ _ st h => by
  obtain ⟨⟨old, he⟩, _⟩ := st
  exact wpAny_pyIter_enum he h
section
variable {X : Cx} {elts : List Expr} {kk : Nat} {tpos : Pos}
def iEnum (K : PySem.W.Frag) (k : SK) (ta : TA) : TI := fun σ H R => ta σ H fun vs H1 => ∃ a, vs = [.ref a] ∧ (∃ xs, Sq k K H1 a xs) ∧ R (Itn K k a) H1
theorem zar3 (k : SK) {a : Expr} {ta : TA} {p pos : Pos} (hg : Gl X "enumerate") (hm : X.mg "enumerate" = none) (ha : PA X [a] ta) (hs : starEach [a] X.env = [(false, eval a X.env)] := by rfl) :
  PI X (.Tuple elts kk tpos) (.Call (.Name "enumerate" p) [a] [] pos) (iEnum X.K k ta) := by
 intro pins s σ H R I h
 refine Call_ (zaf8 I hg hm PyProof.Rows.Boot.«enumerate» (PyProof.Rows.callWith_type1 (thn (ha pos pins s σ H _ I h) fun us s1 ⟨vs, H1, I1, r1, q1⟩ => ?_) hs rfl))
 obtain ⟨a', e, ⟨xs, qx⟩, q⟩ := q1
 subst e
 cases r1 with
 | cons r rr =>
  cases rr
  cases r
  obtain ⟨ix, rx, px⟩ := I1.sis qx
  refine zakq px fun h' b1 b2 b3 => wpAny_pyIter_enum (s := { s1 with heap := h' }) b1 ?_
  have nn : ∀ b, s1.heap.objs.size ≤ b → FpOk X pins H1 b := fun b hb => I1.fpOk hb (I1.hok.fresh hb)
  refine ⟨_, [s1.heap.objs.size + 1, s1.heap.objs.size], _, _, H1, rfl, I1.kept (t' := s1.toks) b3, zal5 (k := k) (Nat.ne_of_gt (Nat.lt_succ_self _)), ⟨⟨_, b1⟩, b2⟩, fun b hb => ?_, q⟩
  simp only [List.mem_cons, List.not_mem_nil, or_false] at hb
  rcases hb with rfl | rfl
  ·exact nn _ (Nat.le_succ _)
  ·exact nn _ (Nat.le_refl _)
end
theorem zafe {K : PySem.W.Frag} {k : SK} {a : Addr} (xs : List V) {g : TG} {tt : TT} {te : TE} {Q : List V → Hp → Prop} {σ : St} {H : Hp} (Pv : Nat → List V → St → Hp → Prop) (hn : xs.length < sizeLine) (h0 : Pv 0 [] σ H) (hl : ∀ i ys σ H, i ≤ xs.length → Pv i ys σ H → ys.length ≤ i ∧ Sq k K H a xs)
  (turn : ∀ i ys σ H x T, xs[i]? = some x → Pv i ys σ H → H T = none → g (.ref T) σ (upd H T (.tup [.int i, x])) fun σ2 H2 => tt σ2 H2 fun b H3 => if b = true then te σ2 H3 fun y H4 => Pv (i + 1) (ys ++ [y]) σ2 H4 else Pv (i + 1) ys σ2 H3)
  (after : ∀ ys σ H, Pv xs.length ys σ H → Q ys H) : Comp (Itn K k a) g tt te Q σ H :=
 zaeg xs.length Pv h0 (fun i ys σ H hi p => Nat.lt_of_le_of_lt (Nat.le_trans (hl i ys σ H hi p).1 hi) hn) (fun i ys σ H hi p => ⟨xs, xs[i], (hl i ys σ H (Nat.le_of_lt hi) p).2, List.getElem?_eq_getElem hi⟩)
  (fun ys σ H p => ⟨xs, (hl _ ys σ H (Nat.le_refl _) p).2, Nat.le_refl _⟩) (fun i ys σ H hi p x H' y => by
   obtain ⟨T, hT, rfl, y⟩ := y
   obtain ⟨u, e1, rfl⟩ := y xs (hl i ys σ _ (Nat.le_of_lt hi) p).2
   exact turn i ys σ _ u T e1 p hT) after
theorem zapq {K : PySem.W.Frag} {k1 k2 : SK} {a b : Addr} (xs zs : List V) {g : TG} {tt : TT} {te : TE} {Q : List V → Hp → Prop} {σ : St} {H : Hp} (Pv : Nat → List V → St → Hp → Prop) (hn : xs.length < sizeLine) (hz : xs.length = zs.length) (h0 : Pv 0 [] σ H) (hl : ∀ i ys σ H, i ≤ xs.length → Pv i ys σ H → ys.length ≤ i ∧ Sq k1 K H a xs ∧ Sq k2 K H b zs)
  (turn : ∀ i ys σ H x z T, xs[i]? = some x → zs[i]? = some z → Pv i ys σ H → H T = none → g (.ref T) σ (upd H T (.tup [x, z])) fun σ2 H2 => tt σ2 H2 fun b H3 => if b = true then te σ2 H3 fun y H4 => Pv (i + 1) (ys ++ [y]) σ2 H4 else Pv (i + 1) ys σ2 H3)
  (after : ∀ ys σ H, Pv xs.length ys σ H → Q ys H) : Comp (Itz K k1 k2 a b) g tt te Q σ H :=
 zaeg xs.length Pv h0 (fun i ys σ H hi p => Nat.lt_of_le_of_lt (Nat.le_trans (hl i ys σ H hi p).1 hi) hn)
  (fun i ys σ H hi p => ⟨xs, zs, xs[i], zs[i]'(hz ▸ hi), (hl i ys σ H (Nat.le_of_lt hi) p).2.1, (hl i ys σ H (Nat.le_of_lt hi) p).2.2, List.getElem?_eq_getElem hi, List.getElem?_eq_getElem (hz ▸ hi)⟩)
  (fun ys σ H p => ⟨xs, zs, (hl _ ys σ H (Nat.le_refl _) p).2.1, (hl _ ys σ H (Nat.le_refl _) p).2.2, .inl (Nat.le_refl _)⟩) (fun i ys σ H hi p x H' y => by
   obtain ⟨T, hT, rfl, y⟩ := y
   obtain ⟨u, v, e1, e2, rfl⟩ := y xs zs (hl i ys σ _ (Nat.le_of_lt hi) p).2.1 (hl i ys σ _ (Nat.le_of_lt hi) p).2.2
   exact turn i ys σ _ u v T e1 e2 p hT) after
end L2

namespace L2
open PySem PySem.Spec PyProof.Rows
theorem zaei : typeLookup (.type "list") "__getattr__" = pure none := by rw [typeLookup_type, builtinLookup_eq_fast]; kernel_rfl
theorem zaf3 : typeLookup (.type "list") "keys" = pure none := by rw [typeLookup_type, builtinLookup_eq_fast]; kernel_rfl
set_option maxHeartbeats 4000000 in
theorem zaff (a : Addr) (its : Array Value) (n : Nat) (name : Str) (u : Tok) (hmiss : typeLookup (.type "list") name = pure none) (hns : [Str.ofString "__module__", Str.ofString "__name__", Str.ofString "__qualname__", Str.ofString "__doc__", Str.ofString "__annotations__"].contains name = false) (hsz : name.length + 100 ≤ sizeLine := by size_fits) :
  Meets (Builtin.«object.__getattribute__» ⟨[.ref a, .str name u], []⟩) (fun A R s => s.heap.get? a = some { cls := .type "list", data := .seq its n } ∧ raisesAttr (.ref a) name A R s) :=
 Meets.of_wp fun prog w A R s hs => by
  obtain ⟨hp, g, d, tk, os⟩ := s
  obtain ⟨ha, hs⟩ := hs
  have hT : (⟨hp, g, d, tk, os⟩ : Shared).TypeIs (.ref a) "list" := ⟨_, ha, rfl⟩
  unfold Builtin.«object.__getattribute__»
  repeat (any_goals (first | assumption | wp_step))
  rw [if_neg (by rw [hns]; exact Bool.false_ne_true)]
  repeat (any_goals (first | assumption | wp_step))
  exact wpAny_raiseAttrError hs.1 hs.2 (attrMsg_fits (by decide +kernel) hsz)
section
variable {prog : Program} {w : World} {A : Around} {E : Value → Shared → Prop} {s : Shared}
set_option maxHeartbeats 4000000 in
theorem zaf4 {a : Addr} {its : Array Value} {n : Nat} {name : Str} {Q : Option Value → Shared → Prop} (hmiss : typeLookup (.type "list") name = pure none) (hns : [Str.ofString "__module__", Str.ofString "__name__", Str.ofString "__qualname__", Str.ofString "__doc__", Str.ofString "__annotations__"].contains name = false) (hA : A.handled = none) (ha : s.heap.get? a = some { cls := .type "list", data := .seq its n })
  (h : ∀ h' tk, (∀ b o, s.heap.get? b = some o → h'.get? b = some o) → Q none { s with heap := h', toks := tk }) (hsz : name.length + 100 ≤ sizeLine := by size_fits) :
  wpAny (model prog w) A (getAttr? (.ref a) name) Q E s := by
 obtain ⟨hp, g, d, tk, os⟩ := s
 have hT : ∀ t', (⟨hp, g, d, t', os⟩ : Shared).TypeIs (.ref a) "list" := fun _ => ⟨_, ha, rfl⟩
 have f1 := sub_AttributeError
 have f3 := F.slot_list_getattribute.lookup
 have f4 := F.slot_list_getattribute.bind (.ref a)
 have f5 := zaei
 unfold getAttr? getAttrBy? getAttrBy
 repeat (any_goals (first | assumption | exact hT _ | ((with_reducible show wpAny _ _ (call (Value.builtin "list.__getattribute__") _ _) _ _ _); refine call_meets F.slot_list_getattribute (hT _) F.entry_list_ga (F.args_list_getattribute_2 _ _) (zaff a its n name _ hmiss hns hsz) ⟨ha, hA, fun h' tk' e hx => ?_⟩) | wp_step))
 obtain ⟨t', u', he⟩ := hx.there
 show wpAny _ _ (getattributeRaised _ _ _ _ _ _ _) _ _ _
 unfold getattributeRaised
 repeat (any_goals (first | assumption | wp_step))
 exact h _ _ fun b o hb => hx.keeps b o hb
end
theorem zah4 : entryFor table "dict.update.loop" = some Builtin.«dict.update.loop» := entryFor_of_tree (by kernel_rfl)
theorem zadv : plainId "dict.update.loop" = true := by decide +kernel
section
variable {prog : Program} {w : World} {K : Type} [DecidableEq K] {knd : KeyKind prog w K} {A : Around} {R : Result → Shared → Prop}
theorem zal6 {d I l : Addr} {items : Array Value} {ps : List (K × Value)} (hh : A.handled = none) (hdI : d ≠ I) (hld : l ≠ d) (hlI : l ≠ I) (hn : items.size = ps.length) (hsz : ps.length ≤ sizeLine) :
  ∀ (k i : Nat) (s : Shared) (acc : List (K × Value)), ps.length - i = k → i ≤ ps.length → acc.length ≤ i → s.heap.IsListIter I l i → s.heap.IsList l items → s.heap.DictOf knd d acc →
  (∀ (j : Nat) (kv : K × Value), ps[j]? = some kv → ∃ (t : Addr) (key : Value), items[j]? = some (Value.ref t) ∧ s.heap.IsTuple t #[key, kv.2] ∧ knd.is kv.1 key = true ∧ t ≠ d ∧ t ≠ I) →
  (∀ h' tk, h'.DictOf knd d (merged acc (ps.drop i)) → (∀ b o, b ≠ d → b ≠ I → s.heap.get? b = some o → h'.get? b = some o) → R (.ok (.ret .none)) { s with heap := h', toks := tk }) →
  codeAny (model prog w) A (.builtin "dict.update.loop" ⟨[.ref d, .ref I, rawInt i, .none], []⟩) R s := by
 intro k
 induction k with
 | zero =>
  intro i s acc hk hi hacc hit hl hd hp hR
  refine codeAny_builtin zah4 ?_
  rw [Around.under_plainId zadv _]
  show wpAny _ A.in1 (pyNext (.ref I) >>= _) _ _ s
  refine wpAny_bind (wpAny_pyNext_list_end (A := A.in1) hh hit hl (by simp; omega) fun h₁ he₁ => ?_)
  show wpAny _ _ (Builtin.Dict.addKeywords d [] >>= _) _ _ _
  refine wpAny_bind (wpAny_pure (wpAny_pure ?_))
  have := hR h₁ s.toks (by rw [List.drop_of_length_le (by omega)]; exact hd.extBut he₁ hdI) (fun b o hb hbI e => he₁ b o hbI e)
  exact this
 | succ k ih =>
  intro i s acc hk hi hacc hit hl hd hp hR
  have hlt : i < ps.length := by omega
  obtain ⟨t, key, hx, ht, hkey, htd, htI⟩ := hp i ps[i] (List.getElem?_eq_getElem hlt)
  refine codeAny_builtin zah4 ?_
  rw [Around.under_plainId zadv _]
  show wpAny _ A.in1 (pyNext (.ref I) >>= _) _ _ s
  refine wpAny_bind (wpAny_pyNext_list_item hit hl hx fun h₁ hit₁ hs₁ => ?_)
  have ht₁ : h₁.IsTuple t #[key, ps[i].2] := let ⟨o, ho, r⟩ := ht; ⟨o, (hs₁.2 t htI).trans ho, r⟩
  have hd₁ : h₁.DictOf knd d acc := hd.sameBut hs₁ hdI
  refine wpAny_bind (wpAny_holding ?_)
  obtain ⟨ot, hot, hotc, nt, hotd⟩ := id ht₁
  refine wpAny_bind (wpAny_tryCatch ?_)
  unfold Builtin.Dict.pairItems
  refine wpAny_bind (wpAny_typeOf (T := "tuple") (⟨ot, hot, hotc⟩ : Shared.TypeIs _ (.ref t) "tuple") ?_)
  rw [if_pos (by decide)]
  refine wpAny_bind (wpAny_seqItems hot hotd (wpAny_pure ?_))
  show wpAny _ _ (holding [key, ps[i].2] (dictSet d key ps[i].2)) _ _ _
  refine wpAny_holding (wpAny_dictSet_pairs (hsz := by omega) hkey hd₁ fun h₂ hd₂ hs₂ => wpAny_pure ?_)
  refine ⟨plainId_quiet zadv _, ?_⟩
  have up : ∀ b o, b ≠ d → b ≠ I → s.heap.get? b = some o → h₂.get? b = some o := fun b o hb hbI e => (hs₂.2 b hb).trans ((hs₁.2 b hbI).trans e)
  have e1 : (i : Int) + 1 = ((i + 1 : Nat) : Int) := by omega
  have := ih (i + 1) { s with heap := h₂, toks := s.toks + 1 } (stored acc ps[i].1 ps[i].2) (by omega) hlt (Nat.le_trans (stored_length_le ..) (by omega)) (hit₁.extBut hs₂.extBut (Ne.symm hdI))
   (let ⟨o, ho, r⟩ := hl; ⟨o, up l o hld hlI ho, r⟩) hd₂ (fun j kv hj => by
    obtain ⟨t', key', a1, ⟨o, ho, r⟩, a3, a4, a5⟩ := hp j kv hj
    exact ⟨t', key', a1, ⟨o, up t' o a4 a5 ho, r⟩, a3, a4, a5⟩) (fun h' tk hm hk' => by
    have := hR h' tk (by
     rw [List.drop_eq_getElem_cons hlt]
     exact hm) fun b o hb hbI e => hk' b o hb hbI (up b o hb hbI e)
    exact this)
  rw [← e1] at this
  exact this
end
section
variable {prog : Program} {w : World} {K : Type} [DecidableEq K] {knd : KeyKind prog w K} {A : Around} {E : Value → Shared → Prop} {s : Shared}
theorem zafg {l : Addr} {items : List Value} {n : Nat} {ps : List (K × Value)} {Q : Value → Shared → Prop} (hh : A.handled = none) (hl : s.heap.get? l = some { cls := .type "list", data := .seq items.toArray n })
  (hn : items.length = ps.length) (hsz : ps.length ≤ sizeLine) (hp : ∀ (j : Nat) (kv : K × Value), ps[j]? = some kv → ∃ (t : Addr) (key : Value), items[j]? = some (Value.ref t) ∧ s.heap.IsTuple t #[key, kv.2] ∧ knd.is kv.1 key = true)
  (h : ∀ h' tk, h'.DictOf knd s.heap.objs.size (merged [] ps) → (∀ b o, s.heap.get? b = some o → h'.get? b = some o) → Q (.ref s.heap.objs.size) { s with heap := h', toks := tk }) :
  wpAny (model prog w) A (call (.type "dict") [.ref l]) Q E s := by
 refine callType_codes (Q₁ := fun obj s₁ => obj = .ref s.heap.objs.size ∧ s₁ = { s with heap := s.heap.push { cls := .type "dict", data := .dict #[] } }) F.kt_called_dict (F.kt_typeCall_dict_1 _) F.entry_dict_init (kt_code_dict_new _ ⟨rfl, rfl⟩) ?_
 rintro obj s₁ ⟨rfl, rfl⟩
 have hnew : (s.heap.push { cls := .type "dict", data := .dict #[] }).DictOf knd s.heap.objs.size [] := Heap.DictOf.new s.heap
 have hl' : (s.heap.push { cls := .type "dict", data := .dict #[] }).get? l = some { cls := .type "list", data := .seq items.toArray n } := Heap.get?_push_of_some _ hl
 refine ⟨hnew.typeIs, F.args_dict_init_2 _ _, ?_⟩
 unfold Builtin.«dict.__init__»
 refine wpAny_bind ?_
 unfold Builtin.Dict.selfAndRest
 refine wpAny_bind (wpAny_notOrdered_dict hnew.typeIs ?_)
 show wpAny _ _ (pure (s.heap.objs.size, [Value.ref l])) _ _ _
 refine wpAny_pure ?_
 show wpAny _ _ (Builtin.Dict.updateFrom "dict.__init__" s.heap.objs.size (.ref l) [] .none) _ _ _
 unfold Builtin.Dict.updateFrom
 refine wpAny_bind (wpAny_typeOf (T := "list") (⟨_, hl', rfl⟩ : Shared.TypeIs _ (.ref l) "list") ?_)
 rw [if_pos (by decide)]
 refine wpAny_bind (zaf4 (name := "keys") zaf3 (by decide +kernel) ?_ hl' fun h₁ tk₁ k₁ => ?_)
 ·first | exact hh | (show A.in1.handled = none; exact hh)
 rw [if_pos (show (none : Option Value).isNone = true from rfl)]
 refine wpAny_bind (wpAny_rule ?_)
 have hl₁ : h₁.IsList l items.toArray := ⟨_, k₁ _ _ hl', rfl, n, rfl⟩
 refine wpAny_bind (wpAny_pyIter_list (s := { s with heap := h₁, toks := tk₁ }) hl₁ ?_)
 have szd : s.heap.objs.size < h₁.objs.size := by
  obtain ⟨o, _, _, ho, _⟩ := hnew
  exact Heap.lt_size (k₁ _ _ ho)
 have lsz : l < s.heap.objs.size := Heap.lt_size hl
 have old : ∀ b o, s.heap.get? b = some o → (h₁.push { cls := .type "list_iterator", data := .fields #[.ref l, .int 0 0] }).get? b = some o := fun b o e => Heap.get?_push_of_some _ (k₁ b o (Heap.get?_push_of_some _ e))
 refine wpAny_pure ⟨plainId_quiet zadv _, ?_⟩
 refine zal6 (knd := knd) (d := s.heap.objs.size) (I := h₁.objs.size) (l := l) (items := items.toArray) (ps := ps) (A := A.in1) hh (Nat.ne_of_lt szd) (Nat.ne_of_lt lsz) (Nat.ne_of_lt (Nat.lt_trans lsz szd)) (by simpa using hn) hsz ps.length 0 _ [] rfl (Nat.zero_le _) (Nat.le_refl _)
  ⟨_, Heap.get?_push_size _ rfl, rfl, rfl⟩ ⟨_, Heap.get?_push_of_some _ (k₁ _ _ hl'), rfl, n, rfl⟩ (let ⟨o, es, ep, ho, r⟩ := hnew; ⟨o, es, ep, Heap.get?_push_of_some _ (k₁ _ _ ho), r⟩) (fun j kv hj => ?_) (fun h' tk hm hk => ?_)
 ·obtain ⟨t, key, a1, ⟨o, ho, r⟩, a3⟩ := hp j kv hj
  have tlt := Heap.lt_size ho
  exact ⟨t, key, by simpa using a1, ⟨o, old t o ho, r⟩, a3, Nat.ne_of_lt tlt, Nat.ne_of_lt (Nat.lt_trans tlt szd)⟩
 ·exact ⟨rfl, h h' tk hm fun b o e => hk b o (Nat.ne_of_lt (Heap.lt_size e)) (Nat.ne_of_lt (Nat.lt_trans (Heap.lt_size e) szd)) (old b o e)⟩
end
end L2

namespace L2
open PySem PySem.Spec PyProof.Rows
abbrev IsZipK (h : Heap) (z TI TO : Addr) (T : Addr) (f1 : Bool) : Prop :=
 h.get? z = some { cls := .type "zip", dict := none, data := .fields #[rawInt T, .bool f1, .bool false, .ref TI, .ref TO], slots := #[] }
section
variable {prog : Program} {w : World} {A : Around} {E : Value → Shared → Prop} {s : Shared}
end
def PairsAt (h : Heap) (us : List Value) (xs ys : List Value) : Prop := us.length ≤ xs.length ∧ us.length ≤ ys.length ∧ ∀ (j : Nat) (u : Value), us[j]? = some u → ∃ (t : Addr) (x y : Value), u = .ref t ∧ xs[j]? = some x ∧ ys[j]? = some y ∧ IsPair h t x y
section
variable {prog : Program} {w : World} {A : Around} {R : Result → Shared → Prop}
end
section
variable {prog : Program} {w : World} {A : Around} {E : Value → Shared → Prop} {s : Shared}
end
end L2

namespace L2
open PySem PySem.Spec PyProof.Rows
section
variable {X : Cx} {pins : List (Addr × Obj)} {σ : List (Option V)} {H H' : Hp} {s : Shared} {h' : Heap}
end
theorem ObjOk.has {P : Program} {w : World} {H : Hp} {h : Heap} {a : Addr} : ∀ {o : HO}, ObjOk P w H h a o → ∃ ob, h.get? a = some ob
 | .lst _, ⟨_, _, _, _, e⟩ => ⟨_, e⟩
 | .tup _, ⟨_, _, _, o, e, _⟩ => ⟨o, e⟩
 | .dK _, ⟨_, _, _, _, o, _, _, e, _⟩ => ⟨o, e⟩
 | .dT _, ⟨_, _, _, _, o, _, _, e, _⟩ => ⟨o, e⟩
 | .set _ _, ⟨o, _, _, _, e, _⟩ => ⟨o, e⟩
 | .ins _ _ _, ⟨_, _, _, e, _⟩ => ⟨_, e⟩
 | .own _, x => x
 | .xd _, ⟨_, ⟨o, _, _, e, _⟩, _⟩ => ⟨o, e⟩
 | .rng _ _, ⟨_, _, _, e⟩ => ⟨_, e⟩
 | .frz _ _, ⟨e, _⟩ => ⟨_, e⟩
 | .tbl _, e => ⟨_, e⟩
 | .met _ _, e => ⟨_, e⟩
 | .ext _, ⟨_, e, _⟩ => e
theorem HOk.has {P : Program} {w : World} {H : Hp} {h : Heap} {a : Addr} {o : HO} (x : HOk P w H h) (e : H a = some o) : ∃ ob, h.get? a = some ob := (x a o e).has
section
variable {X : Cx}
def tLZ (K : PySem.W.Frag) (k1 k2 : SK) (ta : TA) : TE := fun σ H Q => ta σ H fun vs H1 => ∃ a b xs ys, vs = [.ref a, .ref b] ∧ Sq k1 K H1 a xs ∧ Sq k2 K H1 b ys ∧ xs.length = ys.length ∧ xs.length ≤ sizeLine ∧
 ∀ (p : Addr) (ts : List Addr) (H' : Hp), Ch [] H1 H' → H1 p = none → H' p = some (.lst (ts.map V.ref)) → ts.length = xs.length →
  (∀ (i : Nat) (t : Addr) (x y : V), ts[i]? = some t → xs[i]? = some x → ys[i]? = some y → H' t = some (.tup [x, y])) → Q (.ref p) H'
def adr : Value → Addr
 | .ref a => a
 | _ => 0
theorem zal7 {P : Program} {w : World} {k : Key} {u : Value} (r : RelV (kV k) u) : (mixKind P w).is k u = true := zaiq r
theorem zac1 (hc : X.calm = true) : CallR X (.type "dict") (fun xs H Q => ∃ (p : Addr) (ts : List Addr) (kvs : List (Key × V)), xs = [.ref p] ∧ H p = some (.lst (ts.map V.ref)) ∧ ts.length = kvs.length ∧
  (∀ (i : Nat) (t : Addr) (kv : Key × V), ts[i]? = some t → kvs[i]? = some kv → H t = some (.tup [kV kv.1, kv.2])) ∧ (kvs.map (·.1)).Nodup ∧ kvs.length ≤ sizeLine ∧ ∀ d, H d = none → Q (.ref d) (upd H d (.dK kvs))) := by
 intro pins s σ H xs us Q I r h
 obtain ⟨p, ts, kvs, rfl, hp, hlen, hts, hnd, hz, q⟩ := h
 obtain ⟨u, rfl, ru⟩ := vals1 r
 cases ru
 obtain ⟨z, its, n, rv, e⟩ := I.hok p _ hp
 have each : ∀ (i : Nat) (kv : Key × V), kvs[i]? = some kv → ∃ (t : Addr) (ku vu : Value), its[i]? = some (.ref t) ∧ s.heap.IsTuple t #[ku, vu] ∧ RelV (kV kv.1) ku ∧ RelV kv.2 vu := by
  intro i kv ei
  have hi : i < ts.length := by rw [hlen]; exact (List.getElem?_eq_some_iff.mp ei).1
  have et : ts[i]? = some ts[i] := List.getElem?_eq_getElem hi
  obtain ⟨u, eu, ru⟩ := rv.get (i := i) (x := .ref ts[i]) (by rw [List.getElem?_map, et]; rfl)
  cases ru
  obtain ⟨_, us, r2, o, ho, hoc, no, hod⟩ := I.hok _ _ (hts i ts[i] kv et ei)
  obtain ⟨ku, vu, rfl, rk, rvv⟩ := vals2 r2
  exact ⟨ts[i], ku, vu, eu, ⟨o, ho, hoc, no, hod⟩, rk, rvv⟩
 have mk : ∀ (l : List (Key × V)) (m : Nat), (∀ (i : Nat) (kv : Key × V), l[i]? = some kv → kvs[m + i]? = some kv) → ∃ ps : List (Key × Value), KV l ps ∧
   ∀ (i : Nat) (kv : Key × Value), ps[i]? = some kv → ∃ (t : Addr) (key : Value), its[m + i]? = some (.ref t) ∧ s.heap.IsTuple t #[key, kv.2] ∧ (mixKind X.prog X.w).is kv.1 key = true := by
  intro l
  induction l with
  | nil => intro m _; exact ⟨[], .nil, fun i kv e => by simp at e⟩
  | cons kv l ih =>
   intro m hm
   obtain ⟨t, ku, vu, e1, e2, e3, e4⟩ := each m kv (by simpa using hm 0 kv rfl)
   obtain ⟨ps, h1, h2⟩ := ih (m + 1) fun i kv' e => by
    have := hm (i + 1) kv' (by simpa using e)
    rw [show m + 1 + i = m + (i + 1) by omega]; exact this
   refine ⟨(kv.1, vu) :: ps, .cons ⟨rfl, e4⟩ h1, fun i kv' e => ?_⟩
   cases i with
   | zero =>
    simp at e
    subst e
    exact ⟨t, ku, by simpa using e1, e2, zal7 e3⟩
   | succ i =>
    obtain ⟨t', key, f1, f2, f3⟩ := h2 i kv' (by simpa using e)
    exact ⟨t', key, by rw [show m + (i + 1) = m + 1 + i by omega]; exact f1, f2, f3⟩
 obtain ⟨ps, kv, hps⟩ := mk kvs 0 fun i kv e => by simpa using e
 have lps : kvs.length = ps.length := Paired.length kv
 have keys : ps.map (·.1) = kvs.map (·.1) := by
  clear hps mk each hts hnd hz q lps hlen
  unfold KV at kv
  induction kv with
  | nil => rfl
  | cons a _ ih => rw [List.map_cons, List.map_cons, ih, a.1]
 refine zafg (knd := mixKind X.prog X.w) (ps := ps) (I.ok.hd hc) e (by rw [← rv.length]; simp; omega) (by omega) (fun j kv' ej => by
  have := hps j kv' ej
  simpa using this) fun h' tk hd hk => ?_
 rw [merged_nil_of_nodup ps (by rw [keys]; exact hnd)] at hd
 have hf : H s.heap.objs.size = none := I.hok.fresh (Nat.le_refl _)
 refine ⟨.ref s.heap.objs.size, upd H s.heap.objs.size (.dK kvs), I.laid (t' := tk) hk (Nat.le_refl _) ?_, rfl, q _ hf⟩
 exact ⟨hz, beq_eq_false_iff_ne.mpr (Ne.symm (Nat.ne_of_lt I.big)), ps, kv, hd⟩
theorem zaiv {prog : Program} {w : World} {A : Around} {bs : List Bool} : TruthOf prog w A (fun i v => (bs.map fun b => Value.bool b).toArray[i]? = some v) (fun i => bs.getD i false) := by
 intro i v s Q E hP hQ
 have hP' : (bs.map fun b => Value.bool b)[i]? = some v := by simpa using hP
 rw [List.getElem?_map] at hP'
 cases e : bs[i]? with
 | none => rw [e] at hP'; cases hP'
 | some b =>
  rw [e] at hP'
  cases hP'
  have : bs.getD i false = b := by rw [List.getD_eq_getElem?_getD, e]; rfl
  have hQ : Q (bs.getD i false) s := hQ
  rw [this] at hQ
  exact wpAny_pure hQ
theorem zal8 (bs : List Bool) : ((List.range bs.length).all fun i => bs.getD i false) = bs.all id := by
 rw [Bool.eq_iff_iff, List.all_eq_true, List.all_eq_true]
 constructor
 ·intro h b hb
  obtain ⟨i, hi, rfl⟩ := List.mem_iff_getElem.mp hb
  have := h i (List.mem_range.mpr hi)
  rw [List.getD_eq_getElem?_getD, List.getElem?_eq_getElem hi] at this
  exact this
 ·intro h i hi
  have hi := List.mem_range.mp hi
  rw [List.getD_eq_getElem?_getD, List.getElem?_eq_getElem hi]
  exact h _ (List.getElem_mem hi)
theorem zagd : ∀ {bs : List Bool} {its : List Value}, Vals (bs.map V.bl) its → its = bs.map fun b => Value.bool b
 | [], _, .nil => rfl
 | b :: bs, _, .cons r t => by rw [List.map_cons, zagd t]; cases r; rfl
theorem zac9 (hc : X.calm = true) : CallR X (.builtin "all") (fun xs H Q => ∃ (p : Addr) (bs : List Bool), xs = [.ref p] ∧ H p = some (.lst (bs.map V.bl)) ∧ Q (.bl (bs.all id)) H) := by
 intro pins s σ H xs us Q I r h
 obtain ⟨p, bs, rfl, hp, q⟩ := h
 obtain ⟨u, rfl, ru⟩ := vals1 r
 cases ru
 obtain ⟨z, its, n, rv, e⟩ := I.hok p _ hp
 have ei := zagd rv
 subst ei
 have hl : s.heap.IsList p (bs.map fun b => Value.bool b).toArray := ⟨_, e, rfl, n, rfl⟩
 refine call_all_walk (wpAny_pyIter_list hl ?_)
 have hne : p ≠ s.heap.objs.size := Nat.ne_of_lt (Heap.lt_size e)
 refine ⟨s.heap.objs.size, _, _, _, _, _, _, rfl, Walks.list (by first | exact I.ok.hd hc | (show X.A.in1.handled = none; exact I.ok.hd hc)) s.heap.objs.size p hne (bs.map fun b => Value.bool b).toArray,
  ⟨⟨_, Heap.get?_push_size _ rfl, rfl, rfl⟩, ⟨_, Heap.get?_push_of_some _ e, rfl, n, rfl⟩⟩, zaiv, fun h' tk hk => ?_⟩
 have sz : (bs.map fun b => Value.bool b).toArray.size = bs.length := by simp
 rw [sz, zal8]
 exact ⟨.bl (bs.all id), H, I.kept (t' := tk) fun b o eb => hk b o (by simp; exact Nat.ne_of_lt (Heap.lt_size eb)) (Heap.get?_push_of_some _ eb), rfl, q⟩
end
end L2

namespace L2
open PySem PySem.Spec PyProof.Rows
section
variable {X : Cx} {pins : List (Addr × Obj)} {σ : St} {H : Hp} {s : Shared} {A : Around} {E : Value → Shared → Prop} {Q : Value → Shared → Prop} {b : Bool}
theorem zaks {x : V} {u t : Value} {tp : Addr} {its : List Value} {o : Obj} {n : Nat} (I : Inv X pins σ H s) (rx : RelV x u) (ty : TyOf X.K H x t) (ho : s.heap.get? tp = some o) (hoc : o.cls = .type "tuple") (hod : o.data = .seq its.toArray n)
  (e : PySem.W.kitAny X.K t its = some b) (h : ∀ tk, Q (.bool b) { s with toks := tk }) :
  wpAny (model X.prog X.w) A (call (.builtin "isinstance") [u, .ref tp]) Q E s := by
 obtain ⟨c0, d0, t0, l0⟩ := o
 replace hoc : c0 = .type "tuple" := hoc
 replace hod : t0 = .seq its.toArray n := hod
 subst hoc hod
 cases ty with
 | non => cases (show u = Value.none from rx); exact PySem.W.kia_tup PySem.W.kitx_none I.kIn True.intro ho e (fun z => nomatch z) h
 | bl y => cases (show u = Value.bool y from rx); exact PySem.W.kia_tup PySem.W.kitx_bool I.kIn True.intro ho e (fun z => nomatch z) h
 | int i => obtain ⟨t, q⟩ := (show ∃ t, u = Value.int i t from rx); cases q; exact PySem.W.kia_tup PySem.W.kitx_int I.kIn True.intro ho e (fun z => nomatch z) h
 | str y => obtain ⟨t, q⟩ := (show ∃ t, u = Value.str y t from rx); cases q; exact PySem.W.kia_tup PySem.W.kitx_str I.kIn True.intro ho e (fun z => nomatch z) h
 | flt y => obtain ⟨t, q⟩ := (show ∃ t, u = Value.float y t from rx); cases q; exact PySem.W.kia_tup PySem.W.kitx_float I.kIn True.intro ho e (fun z => nomatch z) h
 | @lst a xs ea =>
  cases (show u = Value.ref a from rx)
  obtain ⟨_, _, n, _, h1⟩ := (show ObjOk X.prog X.w H s.heap a (.lst xs) from I.hok a _ ea)
  exact PySem.W.kia_tup PySem.W.kitx_list I.kIn ⟨_, h1, rfl⟩ ho e (fun z => nomatch z) h
 | @frz a ob xs ea =>
  cases (show u = Value.ref a from rx)
  obtain ⟨_, _, _, n, _, h1⟩ := (show ObjOk X.prog X.w H s.heap a (.frz ob (.lst xs)) from I.hok a _ ea)
  exact PySem.W.kia_tup PySem.W.kitx_list I.kIn ⟨_, h1, rfl⟩ ho e (fun z => nomatch z) h
 | @tup a xs ea =>
  cases (show u = Value.ref a from rx)
  obtain ⟨_, _, _, p⟩ := (show ObjOk X.prog X.w H s.heap a (.tup xs) from I.hok a _ ea)
  obtain ⟨o, h1, h2, _⟩ := p
  exact PySem.W.kia_tup PySem.W.kitx_tuple I.kIn ⟨o, h1, h2⟩ ho e (fun z => nomatch z) h
 | @dK a kvs ea =>
  cases (show u = Value.ref a from rx)
  obtain ⟨_, _, vs, _, p⟩ := (show ObjOk X.prog X.w H s.heap a (.dK kvs) from I.hok a _ ea)
  obtain ⟨o, es, ep, h1, h2, _⟩ := p
  exact PySem.W.kia_tup PySem.W.kitx_dict I.kIn ⟨o, h1, h2.1⟩ ho e (fun z => nomatch z) h
 | @dT a kvs ea =>
  cases (show u = Value.ref a from rx)
  obtain ⟨_, _, xs, _, o, es, ep, h1, h2, _⟩ := (show ObjOk X.prog X.w H s.heap a (.dT kvs) from I.hok a _ ea)
  exact PySem.W.kia_tup PySem.W.kitx_dict I.kIn ⟨o, h1, h2.1⟩ ho e (fun z => nomatch z) h
 | @ins a C dx fs ea cl ha hn htk hm =>
  cases (show u = Value.ref a from rx)
  obtain ⟨mA, O, _⟩ := zae6 I.hok ea
  obtain ⟨od, J, _⟩ := O.look
  exact PySem.W.kia_tup (PySem.W.kitx_own (cl.get _) cl.hd ha hn htk hm) I.kIn J ho e (fun z => nomatch z) h
end
def rIsTs (K : PySem.W.Frag) : List V → Hp → VK → Prop := fun xs H Q => ∃ (x : V) (p : Addr) (Ts : List String) (t : Value) (b : Bool), xs = [x, .ref p] ∧ H p = some (.tup (Ts.map V.ty)) ∧ TyOf K H x t ∧ PySem.W.kitAny K t (Ts.map Value.type) = some b ∧ Q (.bl b) H
theorem zajy : ∀ {Ts : List String} {us : List Value}, Vals (Ts.map V.ty) us → us = Ts.map Value.type
 | [], _, .nil => rfl
 | T :: Ts, _, .cons r t => by rw [List.map_cons, zajy t]; cases r; rfl
theorem zal9 {X : Cx} : CallR X (.builtin "isinstance") (rIsTs X.K) := by
 intro pins s σ H xs us Q I r h
 obtain ⟨x, p, Ts, t, b, rfl, hp, ty, e, q⟩ := h
 obtain ⟨u, v, rfl, ru, rv⟩ := vals2 r
 cases rv
 obtain ⟨_, its, rt, o, ho, hoc, n, hod⟩ := I.hok p _ hp
 have := zajy rt
 subst this
 exact zaks I ru ty ho hoc hod e fun tk => ⟨.bl b, H, I.tok _, rfl, q⟩
example (K : PySem.W.Frag) : PySem.W.kitAny K (.type "list") [.type "list", .type "tuple"] = some true := rfl
example (K : PySem.W.Frag) : PySem.W.kitAny K (.type "tuple") [.type "list", .type "tuple"] = some true := rfl
example (K : PySem.W.Frag) : PySem.W.kitAny K (.type "int") [.type "list", .type "tuple"] = some false := rfl
end L2

namespace L2
open PySem PySem.Spec PyProof.Rows
structure MethOk (P : Program) (w : World) (K : PySem.W.Frag) (mg : Str → Option Value) (base : Heap) (CX : CXT) (k : Nat) (C : Addr) (m : Str) (ps : List Str) (sp : Sp) : Prop where
 cl : Cls K C
 ex : ∃ (f : Addr) (fd : FuncData), FnOk P w K mg base CX k f fd ps sp ∧ Binds K fd ps [] ∧ Meth K C m f
theorem MethOk.mono {P : Program} {w : World} {K : PySem.W.Frag} {mg : Str → Option Value} {base : Heap} {CX : CXT} {j k : Nat} {C : Addr} {m : Str} {ps : List Str} {sp : Sp} (D : MethOk P w K mg base CX j C m ps sp) (h : j ≤ k) : MethOk P w K mg base CX k C m ps sp := by
 obtain ⟨f, fd, F, b⟩ := D.ex
 exact ⟨D.cl, f, fd, F.mono h, b⟩
structure MakeOk (P : Program) (w : World) (K : PySem.W.Frag) (mg : Str → Option Value) (base : Heap) (CX : CXT) (k : Nat) (C : Addr) (x : Str) (ps : List Str) (sp : Sp) : Prop where
 ex : ∃ (f : Addr) (fd : FuncData), FnOk P w K mg base CX k f fd ps sp ∧ Binds K fd ps [] ∧ Mk K C f ∧ mg x = some (.ref C)
theorem MakeOk.mono {P : Program} {w : World} {K : PySem.W.Frag} {mg : Str → Option Value} {base : Heap} {CX : CXT} {j k : Nat} {C : Addr} {x : Str} {ps : List Str} {sp : Sp} (D : MakeOk P w K mg base CX j C x ps sp) (h : j ≤ k) : MakeOk P w K mg base CX k C x ps sp := by
 obtain ⟨f, fd, F, b⟩ := D.ex
 exact ⟨f, fd, F.mono h, b⟩
section
variable {X : Cx} {CX : CXT} {k : Nat} {C : Addr} {ps : List Str} {sp : Sp} {E : XK} {x m : Str} {p pos apos : Pos} {e o : Expr} {es : List Expr} {ta : TE} {t : TA}
theorem zama {pl : Sem Bool} (he : Pr (PE X o ta)) (D : MethOk X.prog X.w X.K X.mg X.base CX k C m ps sp) (hr : Room k X.A) (hx : Passes CX X E) (ha : Pr (PA X (e :: es) t))
  (hst : starEach (e :: es) X.env = (false, eval e X.env) :: starEach es X.env := by rfl) (hpl : (backTo pos (starEach es X.env)).any (·.1) = false := by rfl)
  (ht : eval (.Call (.Attribute o m apos) (e :: es) [] pos) X.env = (do
   let ov ← eval o X.env
   standAt apos.atName
   let (f, first) ← holding [ov] (getMethod ov m pl)
   callWith pos f first (backTo pos (starEach (e :: es) X.env)) (backToKw pos (keywordEach [] X.env))) := by rfl) :
  Pr (PE X (.Call (.Attribute o m apos) (e :: es) [] pos) (tMeth C m sp [] E ta t)) := by
 obtain ⟨f, fd, F, b, hm⟩ := D.ex
 exact ⟨zarg he.h D.cl hm F hr b .nil hx ha.h hst hpl ht⟩
theorem zakt {pl : Sem Bool} (he : Pr (PE X o ta)) (D : MethOk X.prog X.w X.K X.mg X.base CX k C m ps sp) (hr : Room k X.A) (hx : Passes CX X E)
  (ht : eval (.Call (.Attribute o m apos) [] [] pos) X.env = (do
   let ov ← eval o X.env
   standAt apos.atName
   let (f, first) ← holding [ov] (getMethod ov m pl)
   callWith pos f first (backTo pos (starEach [] X.env)) (backToKw pos (keywordEach [] X.env))) := by rfl) :
  Pr (PE X (.Call (.Attribute o m apos) [] [] pos) (tMeth C m sp [] E ta tNil)) := by
 obtain ⟨f, fd, F, b, hm⟩ := D.ex
 exact ⟨zao8 he.h D.cl hm F hr b .nil hx ht⟩
theorem zamb (D : MakeOk X.prog X.w X.K X.mg X.base CX k C x ps sp) (hr : Room (k + 1) X.A) (hg : Gl X x) (hx : Passes CX X E)
  (ha : Pr (PA X (e :: es) t)) (hdb : (x == ("__debug__" : Str)) = false := by decide) (he : starEach (e :: es) X.env = (false, eval e X.env) :: starEach es X.env := by rfl) (hpl : (backTo pos (starEach es X.env)).any (·.1) = false := by rfl) :
  Pr (PE X (.Call (.Name x p) (e :: es) [] pos) (tMake C sp [] E t)) := by
 obtain ⟨f, fd, F, b, M, hm⟩ := D.ex
 exact ⟨zarh M F hr hg hm b .nil hx ha.h hdb he hpl⟩
end
section
variable {X : Cx} {sc : Scope} {own : List Str} {fr : List Nat} {N' : List Str} {tg elt iter : Expr} {ifs : List Expr} {g : TG} {tt : TT} {te : TE} {wi : TI} {pos : Pos}
theorem zaa9 : Pr (PIf X [] tYes) := ⟨zarz⟩
theorem zacq {c : Expr} {t : TT} (h : Pr (PT X c t)) : Pr (PIf X [c] t) := ⟨zar0 h.h⟩
theorem zaa7 (hc : X.calm = true) (cs : CompOk sc X.env.scope own X.N fr N') (hi : Pr (PI X tg iter wi)) (hg : ∀ cl C s H fp, Pr (PG (cxC X sc cl N' C s H fp) tg g)) (hif : ∀ cl C s H fp, Pr (PIf (cxC X sc cl N' C s H fp) ifs tt))
  (he : ∀ cl C s H fp, Pr (PE (cxC X sc cl N' C s H fp) elt te)) (hs : ∀ x, foldedSetIterable iter X.env x = pure x := by intro _; rfl) : Pr (PE X (.ListComp elt [⟨tg, iter, ifs, 0⟩] sc pos) (tComp own.length fr wi g tt te)) :=
 ⟨zar1 hc cs hi.h (fun a b c d e => (hg a b c d e).h) (fun a b c d e => (hif a b c d e).h) (fun a b c d e => (he a b c d e).h) hs⟩
theorem zadi {i : Nat} {y : Str} {py spos : Pos} (hN : X.N.Nodup) (hy : X.N[i]? = some y) (hx : Loc X.env.scope y) (hc : X.calm = true) (cs : CompOk sc X.env.scope own X.N fr N') (hi : Pr (PI X tg iter wi))
  (hg : ∀ cl C s H fp, Pr (PG (cxC X sc cl N' C s H fp) tg g)) (hif : ∀ cl C s H fp, Pr (PIf (cxC X sc cl N' C s H fp) ifs tt)) (he : ∀ cl C s H fp, Pr (PE (cxC X sc cl N' C s H fp) elt te))
  (hsw : swapsWith (.ListComp elt [⟨tg, iter, ifs, 0⟩] sc pos) (some (.Name y py)) spos.line X.env = pure true) (hfn : X.fn y = true ∨ X.env.scope.names.lookup y = some .local := by first | exact .inl rfl | exact .inr rfl | assumption) (hs : ∀ x, foldedSetIterable iter X.env x = pure x := by intro _; rfl) :
  Pr (PS X (.Assign [.Name y py] (.ListComp elt [⟨tg, iter, ifs, 0⟩] sc pos) spos) (tSetC i own.length fr wi g tt te)) :=
 ⟨zar2 hN hy hx hc cs hi.h (fun a b c d e => (hg a b c d e).h) (fun a b c d e => (hif a b c d e).h) (fun a b c d e => (he a b c d e).h) hsw hfn hs⟩
theorem zagn (k : SK) {elts : List Expr} {kk : Nat} {tpos : Pos} {a : Expr} {ta : TA} {p pos : Pos} (hg : Gl X "enumerate") (hm : X.mg "enumerate" = none) (ha : Pr (PA X [a] ta)) (hs : starEach [a] X.env = [(false, eval a X.env)] := by rfl) :
  Pr (PI X (.Tuple elts kk tpos) (.Call (.Name "enumerate" p) [a] [] pos) (iEnum X.K k ta)) := ⟨zar3 k hg hm ha.h hs⟩
theorem zajz : Pr (PPs X pos [] [] []) := ⟨zarr⟩
theorem zadd {k v : Expr} {ks : List (Option Expr)} {vs : List Expr} {tk tv : TE} {trs : List (TE × TE)} (hk : Pr (PE X k tk)) (hv : Pr (PE X v tv)) (hr : Pr (PPs X pos ks vs trs)) : Pr (PPs X pos (some k :: ks) (v :: vs) ((tk, tv) :: trs)) := ⟨zapi hk.h hv.h hr.h⟩
theorem zaj0 {keys : List (Option Expr)} {values : List Expr} {trs : List (TE × TE)} (h : Pr (PPs X pos keys values trs)) (hall : keys.all (·.isSome) = true) (hl : keys.length = values.length) (h0 : keys ≠ [])
  (h15 : keys.length ≤ 15) : Pr (PE X (.Dict keys values pos) (tDisp trs)) := ⟨zars h.h hall hl h0 h15⟩
theorem zah5 : Pr (PE X (.Dict [] [] pos) tDNewK) := ⟨zaph⟩
theorem compOk {sc outer : Scope} {own N : List Str} {fr : List Nat} {N' : List Str} (h1 : sc.kind = .function) (h2 : ∀ y ∈ sc.names, y.2 ≠ .cell) (h3 : ∀ y ∈ sc.names, y.2 = .local → sc.names.lookup y.1 = some .local)
  (h4 : ∀ y ∈ sc.names, y.2 = .free → outer.names.lookup y.1 = some .cell ∨ outer.names.lookup y.1 = some .free) (h5 : N'.Nodup) (h6 : N'.map some = own.map some ++ fr.map fun j => N[j]?)
  (h7 : ∀ x ∈ fr.filterMap (fun j => N[j]?), sc.names.lookup x = some .free ∧ (outer.names.lookup x = some .cell ∨ outer.names.lookup x = some .free)) : CompOk sc outer own N fr N' :=
 ⟨h1, h2, h3, h4, h5, h6, fun j hj x hx => h7 x (List.mem_filterMap.mpr ⟨j, hj, hx⟩)⟩
end
def rIsT2 (K : PySem.W.Frag) : List V → Hp → VK → Prop := fun xs H Q => ∃ (x : V) (p : Addr) (T1 T2 : String) (t : Value) (b : Bool), xs = [x, .ref p] ∧ H p = some (.tup [.ty T1, .ty T2]) ∧ TyOf K H x t ∧ PySem.W.kitAny K t [.type T1, .type T2] = some b ∧ Q (.bl b) H
theorem zamc {X : Cx} : CallR X (.builtin "isinstance") (rIsT2 X.K) := fun pins s σ H xs us Q I r h => by
 obtain ⟨x, p, T1, T2, t, b, e, hp, ty, k, q⟩ := h
 exact zal9 pins s σ H xs us Q I r ⟨x, p, [T1, T2], t, b, e, hp, ty, k, q⟩
theorem iteNn {c : Prop} [Decidable c] {A B : Prop} (hc : c) (h : B) : if (!decide c) = true then A else B := by rw [if_neg (by simp [hc])]; exact h
def Tu (H H' : Hp) : Prop := ∀ b xs, H b = some (.tup xs) → H' b = some (.tup xs)
theorem Tu.trans {H H1 H2 : Hp} (a : Tu H H1) (b : Tu H1 H2) : Tu H H2 := fun c xs h => b c xs (a c xs h)
theorem Tu.same {H H' : Hp} (c : Ch [] H H') : Tu H H' := fun b xs h => c b _ h (by simp)
theorem Tu.ch {H H' : Hp} {b : Addr} {o : HO} (c : Ch [b] H H') (hb : H b = some o) (ho : ∀ xs, o ≠ .tup xs) : Tu H H' := fun d xs h => c d _ h (by
 intro z
 have e : d = b := by simpa using z
 subst e
 rw [hb] at h
 exact ho xs (Option.some.inj h))
theorem Tu.lst {H H' : Hp} {b : Addr} {ys : List V} (c : Ch [b] H H') (hb : H b = some (.lst ys)) : Tu H H' := Tu.ch c hb (fun xs z => by cases z)
theorem Tu.new {H : Hp} {p : Addr} (o : HO) (h : H p = none) : Tu H (upd H p o) := Tu.same (Ch.new h o)
end L2

namespace L2
open PySem PySem.Spec PyProof.Rows
section
variable {X : Cx} {a b o e value : Expr} {es : List Expr} {f : Str} {ta tb te : TE} {pos : Pos} {tg l : Expr}
theorem zacn (K : PySem.W.Frag) (hK : X.K = K) : IxR X (aIxL K) := hK ▸ zaa4
theorem zacj (K : PySem.W.Frag) (hK : X.K = K) : IxR X (aIxT K) := hK ▸ zaa2
theorem zago (K : PySem.W.Frag) (hK : X.K = K) : CallR X (.builtin "len") (fun xs H Q => ∃ p ys, xs = [.ref p] ∧ (SqL K H p ys ∨ SqT K H p ys) ∧ Q (.int ys.length) H) := hK ▸ zaan
theorem zage (K : PySem.W.Frag) (hK : X.K = K) : OpR X (compareOp .In) (rIn K false) := hK ▸ zahv
theorem zapr (K : PySem.W.Frag) (hK : X.K = K) (he : Pr (PE X e ta)) (hb : attributeBase e f X.env (eval e X.env) = eval e X.env) : Pr (PE X (.Attribute e f pos) (tFld K ta f)) := hK ▸ ⟨zaqk he.h hb⟩
theorem zamd (K : PySem.W.Frag) (hK : X.K = K) {tl : TE} (hl : Pr (PE X l tl)) : Pr (PI X tg l (iList K tl)) := hK ▸ ⟨zald hl.h⟩
theorem zaps (K : PySem.W.Frag) (hK : X.K = K) {tl : TE} (hl : Pr (PE X l tl)) : Pr (PI X tg l (iTup K tl)) := hK ▸ ⟨zaqh hl.h⟩
theorem zack (K : PySem.W.Frag) (n : Nat) (hK : X.K = K) {k : Nat} {t : TGs} (hc : X.calm = true) (h : Pr (PGs X es t)) (hn : (assignEach es X.env).length = n := by rfl) (hst : (assignEach es X.env).findIdx? (·.1) = none := by rfl) :
  Pr (PG X (.Tuple es k pos) (gTup K n t)) := hK ▸ ⟨zaqg hc h.h hn hst⟩
end
end L2

namespace L2
open PySem PySem.Spec PyProof.Rows
theorem zame (f : Array Value → Array Value) (o : Obj) : (o.mapFields f).dict = o.dict := by
 obtain ⟨_, _, d, _⟩ := o
 cases d <;> rfl
structure Fl (h : Heap) (e C T : Addr) (fl : Value) : Prop where
 ob : ∃ oe vs, h.get? e = some oe ∧ (oe.cls = .ref C ∧ oe.dict = none) ∧ oe.data = .fields vs ∧ vs[1]? = some (.ref T) ∧ vs[2]? = some .none
 tb : ∃ oT ts, h.get? T = some oT ∧ oT.data = .fields ts ∧ ts[3]? = some fl
 ne : T ≠ e
def KB (ex fs : List Addr) (h h' : Heap) : Prop := ∀ b o, h.get? b = some o → b ∉ ex → (b ∉ fs → h'.get? b = some o) ∧ ∃ sl, h'.get? b = some { o with slots := sl }
theorem KB.trans {ex ex' fs : List Addr} {h h1 h2 : Heap} (a : KB ex fs h h1) (b : KB ex' fs h1 h2) : KB (ex ++ ex') fs h h2 := fun c o e n => by
 simp only [List.mem_append, not_or] at n
 obtain ⟨k1, sl, k2⟩ := a c o e n.1
 refine ⟨fun hf => (b c o (k1 hf) n.2).1 hf, ?_⟩
 obtain ⟨_, sl', k3⟩ := b c _ k2 n.2
 exact ⟨sl', k3⟩
section
variable {M : Model} {A : Around} {E : Value → Shared → Prop} {s : Shared} {base : Heap} {env : Env} {outer : List Env} {L e C T : Addr} {Q : Unit → Shared → Prop}
theorem zaj1 {oe : Obj} {vs : Array Value} {head : Value} {hn : Bool} (hfr : A.frames = some (env :: outer)) (hl : s.heap.FunFrames base (env :: outer)) (hf : env.frame = some L)
  (ge : s.heap.get? e = some oe) (gc : oe.cls = .ref C ∧ oe.dict = none) (gd : oe.data = .fields vs) (g1 : 1 < vs.size) (g2 : vs[2]? = some .none)
  (k : ∀ h' T, KB [e] (frs (env :: outer)) s.heap h' → Fl h' e C T (rawInt L) → s.heap.get? T = none → Q () { s with heap := h' }) :
  wpAny M A (do
   let fo ← frameOf env
   let pl ← entryPlaceOf L hn
   let en ← EntryCells.newEntry head fo .none (rawInt L) .none pl
   setField (.ref e) 1 en) Q E s := by
 have nf : e ∉ frs (env :: outer) := fun z => by
  obtain ⟨_, o, ho, no⟩ := hl.mem z
  rw [ge] at ho
  cases ho
  exact no vs gd
 refine wpAny_bind (wpAny_frameOf_fun hfr hl hf fun ha so => ?_)
 refine wpAny_bind (wpAny_entryPlaceOf fun pl ip => ?_)
 unfold EntryCells.newEntry newFields
 refine wpAny_bind (wpAny_newObj_type ?_ (ip.sizeOk5 _ _ _ _ _))
 have ea : ha.get? e = some oe := by rw [so.2.1 e nf]; exact ge
 have neT : ha.objs.size ≠ e := Nat.ne_of_gt (Heap.lt_size ea)
 refine wpAny_setField (Heap.get?_push_of_some _ ea) gd g1 (k _ ha.objs.size (fun b o hb hbe => ?_) ⟨⟨_, _, Heap.get?_update_self _ (Heap.get?_push_of_some _ ea) (Obj.isFreed_of_fields (Obj.data_mapFields gd _)), ?_, Obj.data_mapFields gd _, ?_, ?_⟩, ?_, neT⟩ ?_)
 ·have n1 : e ≠ b := fun z => hbe (by simp [z])
  obtain ⟨sl, q⟩ := so.2.2 b o hb
  refine ⟨fun nb => ?_, sl, ?_⟩
  ·rw [Heap.get?_update_other _ _ n1]
   refine Heap.get?_push_of_some _ ?_
   rw [so.2.1 b nb]
   exact hb
  ·rw [Heap.get?_update_other _ _ n1]
   exact Heap.get?_push_of_some _ q
 ·rw [Obj.cls_mapFields, zame]; exact gc
 ·simp [g1]
 ·rw [Array.getElem?_setIfInBounds_ne (by decide)]; exact g2
 ·have q := (Heap.get?_update_other (ha.push { cls := .type "traceback", dict := none, data := .fields ([head, .ref L, .none, rawInt L, .none] ++ (if pl.isEmpty then List.replicate 6 Value.none else pl)).toArray }) (Obj.mapFields (·.setIfInBounds 1 (Value.ref ha.objs.size))) (Ne.symm neT)).trans (Heap.get?_push_size ha rfl)
  refine ⟨_, _, q, rfl, ?_⟩
  rcases ip with rfl | ⟨_, _, _, _, _, _, _, rfl⟩ <;> simp
 ·exact Heap.get?_none_of_le (by rw [so.1]; exact Nat.le_refl _)
theorem zagp {fl : Value} (f : Fl s.heap e C T fl) (k : ∀ h', KB [T] [] s.heap h' → Fl h' e C T .none → Q () { s with heap := h' }) : wpAny M A (setFlight (.ref e) none) Q E s := by
 obtain ⟨⟨oe, vs, a1, a2, a3, a4, a5⟩, ⟨oT, ts, b1, b2, b3⟩, nT⟩ := f
 have sz : 3 < ts.size := (Array.getElem?_eq_some_iff.mp b3).1
 unfold setFlight
 refine wpAny_bind (wpAny_field a1 a3 a4 ?_)
 rw [if_pos (by simp : (Value.ref T != Value.none) = true)]
 refine wpAny_setField b1 b2 sz (k _ (fun b o hb nb => ?_) ⟨⟨oe, vs, ?_, a2, a3, a4, a5⟩, ⟨_, _, Heap.get?_update_self _ b1 (Obj.isFreed_of_fields (Obj.data_mapFields b2 _)), Obj.data_mapFields b2 _, ?_⟩, nT⟩)
 ·have n1 : T ≠ b := fun z => nb (by simp [z])
  rw [Heap.get?_update_other _ _ n1]
  exact ⟨fun _ => hb, o.slots, hb⟩
 ·rw [Heap.get?_update_other _ _ nT]
  exact a1
 ·simp [sz]
theorem zapt {oe : Obj} {vs : Array Value} (hfr : A.frames = some (env :: outer)) (hl : s.heap.FunFrames base (env :: outer)) (hf : env.frame = some L)
  (ge : s.heap.get? e = some oe) (gc : oe.cls = .ref C ∧ oe.dict = none) (gd : oe.data = .fields vs) (g1 : vs[1]? = some .none) (g2 : vs[2]? = some .none)
  (k : ∀ h' T, KB [e] (frs (env :: outer)) s.heap h' → Fl h' e C T (rawInt L) → s.heap.get? T = none → Q () { s with heap := h' }) : wpAny M A (noteFrame (.ref e) env) Q E s := by
 unfold noteFrame
 simp only [hf]
 refine wpAny_bind (wpAny_field ge gd g1 ?_)
 rw [if_neg (by decide)]
 exact zaj1 hfr hl hf ge gc gd (Array.getElem?_eq_some_iff.mp g1).1 g2 k
theorem zamf {T0 : Addr} (hfr : A.frames = some (env :: outer)) (hl : s.heap.FunFrames base (env :: outer)) (hf : env.frame = some L) (f : Fl s.heap e C T0 .none)
  (k : ∀ h' T, KB [T0, e] (frs (env :: outer)) s.heap h' → Fl h' e C T (rawInt L) → s.heap.get? T = none → Q () { s with heap := h' }) : wpAny M A (noteFrame (.ref e) env) Q E s := by
 obtain ⟨⟨oe, vs, a1, a2, a3, a4, a5⟩, ⟨oT, ts, b1, b2, b3⟩, nT⟩ := f
 unfold noteFrame
 simp only [hf]
 refine wpAny_bind (wpAny_field a1 a3 a4 ?_)
 rw [if_pos (by simp : (Value.ref T0 != Value.none) = true)]
 refine wpAny_bind (wpAny_field b1 b2 b3 ?_)
 rw [if_neg (by simp [rawInt] : ¬ ((Value.none == rawInt L) = true))]
 refine wpAny_bind (wpAny_setField b1 b2 (Array.getElem?_eq_some_iff.mp b3).1 ?_)
 have nfT : ∀ b o, s.heap.get? b = some o → (∀ ws, o.data ≠ .fields ws) → T0 ≠ b := fun b o hb hn z => by
  rw [← z, b1] at hb
  cases hb
  exact hn ts b2
 have same : ∀ b, T0 ≠ b → (s.heap.update T0 (Obj.mapFields (·.setIfInBounds 3 Value.none))).get? b = s.heap.get? b := fun b n => Heap.get?_update_other _ _ n
 have kb : KB [T0] (frs (env :: outer)) s.heap (s.heap.update T0 (Obj.mapFields (·.setIfInBounds 3 Value.none))) := fun b o hb nb => by
  have n1 : T0 ≠ b := fun z => nb (by simp [z])
  rw [same b n1]
  exact ⟨fun _ => hb, o.slots, hb⟩
 refine zaj1 hfr (hl.of_keeps fun b o hb hn => ⟨o, by rw [same b (nfT b o hb hn)]; exact hb, rfl⟩) hf (by rw [same e nT]; exact a1) a2 a3 (Array.getElem?_eq_some_iff.mp a4).1 a5 fun h' T kb' f' n' => k h' T (kb.trans kb') f' ?_
 cases q : s.heap.get? T with
 | none => rfl
 | some o =>
  by_cases z : T0 = T
  ·have := Heap.get?_update_self (Obj.mapFields (·.setIfInBounds 3 Value.none)) b1 (Obj.isFreed_of_fields (Obj.data_mapFields b2 _))
   rw [z] at this
   rw [← z] at n'
   rw [z] at n'
   rw [this] at n'
   cases n'
  ·rw [same T z] at n'
   rw [n'] at q
   cases q
end
end L2

namespace L2
open PySem PySem.Spec PyProof.Rows
def CXE (P : Program) (w : World) : CXT := fun outer H s E e s' => ∃ (ea C T : Addr) (H' : Hp), e = .ref ea ∧ s'.os = s.os ∧ AllBare s'.gens ∧ Un (frs outer) [] H H' s.heap s'.heap ∧ HOk P w H' s'.heap ∧ Fl s'.heap ea C T .none ∧
 s.heap.get? ea = none ∧ s.heap.get? T = none ∧ H' ea = none ∧ H' T = none ∧ E (.ref C) none H'
theorem KB.fs {ex fs : List Addr} {h h' : Heap} (a : KB ex [] h h') : KB ex fs h h' := fun b o e n => ⟨fun _ => (a b o e n).1 (by simp), (a b o e n).2⟩
theorem Un.fly {fs ex xs gs : List Addr} {H H1 : Hp} {h h1 h2 : Heap} (u : Un fs ex H H1 h h1) (kb : KB xs gs h1 h2) (hx : ∀ b ∈ xs, h.get? b = none) (hg : ∀ b ∈ gs, (∃ o, h.get? b = some o) → b ∈ fs) : Un fs ex H H1 h h2 where
 keep := fun b o e n hf hx' => (kb b o (u.keep b o e n hf hx') fun z => by rw [hx b z] at e; cases e).1 fun z => hf (hg b z ⟨o, e⟩)
 slot := fun b o e n hf hx' => by
  obtain ⟨sl, q⟩ := u.slot b o e n hf hx'
  obtain ⟨_, sl', q'⟩ := kb b _ q fun z => by rw [hx b z] at e; cases e
  exact ⟨sl', q'⟩
 free := u.free
 there := fun b o e hx' => by
  obtain ⟨o', q⟩ := u.there b o e hx'
  obtain ⟨_, sl', q'⟩ := kb b _ q fun z => by rw [hx b z] at e; cases e
  exact ⟨_, q'⟩
 tups := u.tups
 frzs := u.frzs
 tbls := u.tbls
theorem HOk.fly {P : Program} {w : World} {H : Hp} {h h' : Heap} {xs gs : List Addr} (x : HOk P w H h) (kb : KB xs gs h h') (hx : ∀ b ∈ xs, H b = none) (hg : ∀ b ∈ gs, H b = none) : HOk P w H h' := fun a o e =>
 (x a o e).stay (fun b u hb q => by
  have t : H b ≠ none := by
   rcases hb with rfl | hb
   ·rw [e]; intro z; cases z
   ·rw [hb]; intro z; cases z
  exact (kb b u q fun z => t (hx b z)).1 fun z => t (hg b z)) (fun _ q => q) fun _ _ q => q
section
variable {X : Cx} {pins : List (Addr × Obj)} {σ : St} {H H' : Hp} {s s' : Shared}
theorem Inv.fly {h' : Heap} {ex : List Addr} (I : Inv X pins σ H s) (kb : KB ex (frs X.stack) s.heap h')
  (hx : ∀ b ∈ ex, X.s₀.heap.get? b = none ∧ H b = none ∧ b ≠ X.env.locals ∧ (∀ x c, X.env.cells.lookup x = some c → c ≠ b) ∧ ∀ p ∈ X.pn ++ pins, p.1 ≠ b) : Inv X pins σ H { s with heap := h' } := by
 have cellK : ∀ x c v, X.env.cells.lookup x = some c → s.heap.IsCell c v → h'.IsCell c v := fun x c v e ⟨o, ho, hd⟩ => by
  obtain ⟨_, sl, q⟩ := kb c o ho fun z => (hx c z).2.2.2.1 x c e rfl
  exact ⟨_, q, hd⟩
 refine ⟨I.ok, I.os, I.bare, I.base.fly kb (fun b z => (hx b z).1) (fun b z ⟨o, e⟩ => ?_), ?_, fun x c e => ?_, I.free, I.freeC, fun p hp => ?_, I.hok.fly kb (fun b z => (hx b z).2.1) I.stkFree, I.len⟩
 ·rcases List.mem_cons.mp (I.stkSub b z) with y | y
  ·rw [y] at e
   exact absurd (Heap.lt_size e) (Nat.not_lt.mpr I.ok.above)
  ·exact y
 ·obtain ⟨m, ⟨o, es, ep, ho, r⟩, l⟩ := I.loc
  obtain ⟨_, sl, q⟩ := kb _ o ho fun z => (hx _ z).2.2.1 rfl
  refine ⟨m, ⟨_, es, ep, q, r⟩, fun i x v h1 h2 h3 => ?_⟩
  obtain ⟨u, ru, lk⟩ := l i x v h1 h2 h3
  refine ⟨u, ru, ?_⟩
  rcases lk with a | ⟨a, c, b1, b2⟩
  ·exact .inl a
  ·exact .inr ⟨a, c, b1, cellK x c _ b1 b2⟩
 ·obtain ⟨v, q⟩ := I.cell x c e
  exact ⟨v, cellK x c v e q⟩
 ·obtain ⟨a, b, c, d, e⟩ := I.pin p hp
  exact ⟨(kb _ _ a fun z => (hx _ z).2.2.2.2 p hp rfl).1 fun z => (List.mem_cons.mp (I.stkSub _ z)).elim c d, b, c, d, e⟩
theorem Inv.alien (I : Inv X pins σ H s) {b : Addr} (n : s.heap.get? b = none) : b ≠ X.env.locals ∧ (∀ x c, X.env.cells.lookup x = some c → c ≠ b) ∧ ∀ p ∈ X.pn ++ pins, p.1 ≠ b := by
 refine ⟨fun z => ?_, fun x c e z => ?_, fun p hp z => ?_⟩
 ·obtain ⟨m, ⟨o, es, ep, ho, r⟩, l⟩ := I.loc
  rw [← z, n] at ho
  cases ho
 ·obtain ⟨v, o, ho, _⟩ := I.cell x c e
  rw [z, n] at ho
  cases ho
 ·have := (I.pin p hp).1
  rw [z, n] at this
  cases this
theorem Inv.alien0 (I : Inv X pins σ H s) (hex : X.ex = []) {b : Addr} (n : s.heap.get? b = none) : X.s₀.heap.get? b = none := by
 cases q : X.s₀.heap.get? b with
 | none => rfl
 | some o =>
  obtain ⟨o', z⟩ := I.base.there b o q (by rw [hex]; simp)
  rw [n] at z
  cases z
theorem HOk.alien {P : Program} {w : World} {H : Hp} {h : Heap} {b : Addr} (x : HOk P w H h) (n : h.get? b = none) : H b = none := by
 cases q : H b with
 | none => rfl
 | some o =>
  obtain ⟨o', z⟩ := x.has q
  rw [n] at z
  cases z
end
section
variable {P : Program} {w : World} {K : PySem.W.Frag} {mg : Str → Option Value} {base : Heap} {N : List Str} {qual : Str} {scope : Scope} {f : Addr} {cd : Value} {A : Around} {outer : List Env} {s₀ : Shared} {H₀ : Hp} {E : XK}
abbrev cxE (P : Program) (w : World) (K : PySem.W.Frag) (mg : Str → Option Value) (base : Heap) (N : List Str) (qual : Str) (scope : Scope) (f : Addr) (cd : Value) (A : Around) (outer : List Env) (s₀ : Shared) (H₀ : Hp) (E : XK) : Cx :=
 cxOf (CXE P w) P w K mg base N qual scope f cd A outer s₀ H₀ E
theorem zaqp {X : Cx} {pins : List (Addr × Obj)} {σ : St} {H : Hp} {s : Shared} (I : Inv X pins σ H s) : ∀ b ∈ frs X.stack, (∃ o, X.s₀.heap.get? b = some o) → b ∈ X.fs := fun b z ⟨o, e⟩ => by
 rcases List.mem_cons.mp (I.stkSub b z) with y | y
 ·rw [y] at e
  exact absurd (Heap.lt_size e) (Nat.not_lt.mpr I.ok.above)
 ·exact y
theorem zar4 {pins : List (Addr × Obj)} {σ : St} {H : Hp} {s : Shared} {h1 : Heap} {e C : Addr} {vs : List Value} (I : Inv (cxE P w K mg base N qual scope f cd A outer s₀ H₀ E) pins σ H s) (m : Heap.MadeExcOf s.heap h1 e (.ref C) vs) (q : E (.ref C) none H) :
  (cxE P w K mg base N qual scope f cd A outer s₀ H₀ E).xe (.ref e) { s with heap := h1 } := by
 have I1 : Inv (cxE P w K mg base N qual scope f cd A outer s₀ H₀ E) pins σ H { s with heap := h1 } := I.kept (t' := s.toks) m.keeps
 obtain ⟨t, ge, _, _⟩ := m.there
 show wpAny (model P w) _ (leaving _ (.ref e)) _ _ _
 unfold leaving
 refine wpAny_bind (zapt I1.ok.frames I1.stack rfl ge ⟨rfl, rfl⟩ rfl rfl rfl fun h2 T kb fl nT => zagp fl fun h3 kb3 fl3 => ?_)
 have k3 : KB [e, T] (frs (envOfC qual scope s₀.heap.objs.size f cd :: outer)) h1 h3 := kb.trans kb3.fs
 have n0 : ∀ b ∈ [e, T], s₀.heap.get? b = none := fun b hb => by
  simp only [List.mem_cons, List.not_mem_nil, or_false] at hb
  rcases hb with rfl | rfl
  ·exact I.alien0 rfl m.new
  ·exact I1.alien0 rfl nT
 have nH : ∀ b ∈ [e, T], H b = none := fun b hb => by
  simp only [List.mem_cons, List.not_mem_nil, or_false] at hb
  rcases hb with rfl | rfl
  ·exact I.hok.alien m.new
  ·exact I1.hok.alien nT
 exact ⟨e, C, T, H, rfl, I.os, I.bare, I1.base.fly k3 n0 (zaqp I1), I1.hok.fly k3 nH I1.stkFree, fl3, n0 e (by simp), n0 T (by simp), nH e (by simp), nH T (by simp), q⟩
theorem passE : Passes (CXE P w) (cxE P w K mg base N qual scope f cd A outer s₀ H₀ E) E := by
 rintro pins σ H s e s' I ⟨ea, C, T, H', rfl, os, bare, un, hok, fl, n1, n2, t1, t2, q⟩
 have J : Inv (cxE P w K mg base N qual scope f cd A outer s₀ H₀ E) pins σ H' s' := I.call' (ch := []) os un hok bare (fun b z => absurd z (by simp))
 show wpAny (model P w) _ (leaving _ (.ref ea)) _ _ _
 unfold leaving
 refine wpAny_bind (zamf J.ok.frames J.stack rfl fl fun h2 T1 kb fl2 nT => zagp fl2 fun h3 kb3 fl3 => ?_)
 have k3 : KB [T, ea, T1] (frs (envOfC qual scope s₀.heap.objs.size f cd :: outer)) s'.heap h3 := kb.trans kb3.fs
 have n0 : ∀ b ∈ [T, ea, T1], s₀.heap.get? b = none := fun b hb => by
  simp only [List.mem_cons, List.not_mem_nil, or_false] at hb
  rcases hb with rfl | rfl | rfl
  ·exact I.alien0 rfl n2
  ·exact I.alien0 rfl n1
  ·exact J.alien0 rfl nT
 have nH : ∀ b ∈ [T, ea, T1], H' b = none := fun b hb => by
  simp only [List.mem_cons, List.not_mem_nil, or_false] at hb
  rcases hb with rfl | rfl | rfl
  ·exact t2
  ·exact t1
  ·exact J.hok.alien nT
 exact ⟨ea, C, T1, H', rfl, J.os, J.bare, J.base.fly k3 n0 (zaqp J), J.hok.fly k3 nH J.stkFree, fl3, n0 ea (by simp), n0 T1 (by simp), nH ea (by simp), nH T1 (by simp), q⟩
end
end L2

namespace L2
open PySem PySem.Spec PyProof.Rows
abbrev bmV : List Value := [.type "ValueError", .type "Exception", .type "BaseException", .type "object"]
def XC (K : PySem.W.Frag) (C : Addr) : Prop := PySem.W.excIn K C bmV "ValueError.__new__" = true
theorem XC.obj {K : PySem.W.Frag} {h : Heap} {C : Addr} (q : XC K C) (X : K.In h) : ∃ bm N nm qn bs hdct sn sub ab col dd k0 k1 k2 k3 k5 mN,
  h.get? C = some (excClassObj nm qn C N bs bm hdct sn sub ab col dd k0 k1 k2 k3 k5 "ValueError.__new__") ∧ h.Ns N mN ∧ mN "__init__" = none ∧ OwnTail h bmV bm := by
 have q : PySem.W.excIn K C bmV "ValueError.__new__" = true := q
 unfold PySem.W.excIn at q
 split at q
 case h_2 => cases q
 case h_1 dd cd sl ho =>
  split at q
  case h_2 => cases q
  case h_1 C' bm k0 k1 k2 k3 n k5 hm hs =>
   simp only [Bool.and_eq_true, beq_iff_eq, Bool.not_eq_true'] at q
   obtain ⟨⟨⟨⟨⟨rfl, rfl⟩, dl⟩, ht⟩, ok⟩, ni⟩ := q
   obtain ⟨nm, bs, mro, ns, qn, hd, sn, sub, ab, col, del⟩ := cd
   dsimp only at hm dl ok ni
   subst hm dl
   obtain ⟨l⟩ := sl
   simp only at hs
   subst hs
   exact ⟨bm, ns, nm, qn, bs, hd, sn, sub, ab, col, dd, k0, k1, k2, k3, k5, _, X _ _ ho, .of_isNs (PySem.W.isNs_of_in X ok), PySem.W.nsMap_none_of_in X ok ni, PySem.W.tail_of_in X ht⟩
def tRaise (C : Addr) (E : XK) (t : TA) : TS := fun _ σ H => t σ H fun vs H1 => vs.length ≤ sizeLine ∧ E (.ref C) none H1
section
variable {P : Program} {w : World} {K : PySem.W.Frag} {mg : Str → Option Value} {base : Heap} {N : List Str} {qual : Str} {scope : Scope} {f : Addr} {cd : Value} {A : Around} {outer : List Env} {s₀ : Shared} {H₀ : Hp} {E : XK}
theorem zamg {x : Str} {C : Addr} {np cpos pos : Pos} {e₀ : Expr} {rest : List Expr} {ta : TA} (hg : Gl (cxE P w K mg base N qual scope f cd A outer s₀ H₀ E) x) (hm : mg x = some (.ref C)) (xc : XC K C)
  (ha : PA (cxE P w K mg base N qual scope f cd A outer s₀ H₀ E) (e₀ :: rest) ta) (hdb : (x == ("__debug__" : Str)) = false := by decide)
  (he : starEach (e₀ :: rest) (cxE P w K mg base N qual scope f cd A outer s₀ H₀ E).env = (false, eval e₀ (cxE P w K mg base N qual scope f cd A outer s₀ H₀ E).env) :: starEach rest (cxE P w K mg base N qual scope f cd A outer s₀ H₀ E).env := by rfl)
  (hpl : (backTo cpos (starEach rest (cxE P w K mg base N qual scope f cd A outer s₀ H₀ E).env)).any (·.1) = false := by rfl) :
  PS (cxE P w K mg base N qual scope f cd A outer s₀ H₀ E) (.Raise (some (.Call (.Name x np) (e₀ :: rest) [] cpos)) none pos) (tRaise C E ta) := by
 intro pins s σ H D I h
 obtain ⟨bm, Nc, nm, qn, bs, hdct, sn, sub, ab, col, dd, k0, k1, k2, k3, k5, mN, hC, hN, hni, T⟩ := xc.obj I.mod.kin
 refine wpAny_Raise_call_subT (C := C) (nm := nm) (q := qn) (N := Nc) (bs := bs) (bm := bm) (hdct := hdct) (sn := sn) (sub := sub) (ab := ab) (col := col) (dd := dd) (k0 := k0) (k1 := k1) (k2 := k2) (k3 := k3) (k5 := k5) PySem.F.excBase_ValueError (mN := mN)
  (T.hasType PySem.F.excBase_ValueError.hasBase) (I.ok.hd rfl) ?_ hni (zaeb I hg hm ⟨rfl, ?_⟩ hdb)
 ·rw [he]
  show (false || (backTo cpos (starEach rest (cxE P w K mg base N qual scope f cd A outer s₀ H₀ E).env)).any (·.1)) = false
  rw [hpl]
  rfl
 ·have ha' := ha cpos pins s σ H _ I h
  rw [he] at ha' ⊢
  refine Calls.evalArgs_plain (wpAny_mono ha' (fun us s2 ⟨vs, H1, I1, r, z, q⟩ => ?_) fun _ _ y => y)
  exact ⟨rfl, by rw [← r.length]; exact z, I1.bk _ _ hC, hN.keeps I1.bk, T.keeps I1.bk, fun h' e m => zar4 I1 m q⟩
theorem zab9 {x : Str} {C : Addr} {np cpos pos : Pos} {e₀ : Expr} {rest : List Expr} {ta : TA} (hg : Gl (cxE P w K mg base N qual scope f cd A outer s₀ H₀ E) x) (hm : mg x = some (.ref C)) (xc : XC K C)
  (ha : Pr (PA (cxE P w K mg base N qual scope f cd A outer s₀ H₀ E) (e₀ :: rest) ta)) (hdb : (x == ("__debug__" : Str)) = false := by decide)
  (he : starEach (e₀ :: rest) (cxE P w K mg base N qual scope f cd A outer s₀ H₀ E).env = (false, eval e₀ (cxE P w K mg base N qual scope f cd A outer s₀ H₀ E).env) :: starEach rest (cxE P w K mg base N qual scope f cd A outer s₀ H₀ E).env := by rfl)
  (hpl : (backTo cpos (starEach rest (cxE P w K mg base N qual scope f cd A outer s₀ H₀ E).env)).any (·.1) = false := by rfl) :
  Pr (PS (cxE P w K mg base N qual scope f cd A outer s₀ H₀ E) (.Raise (some (.Call (.Name x np) (e₀ :: rest) [] cpos)) none pos) (tRaise C E ta)) := ⟨zamg hg hm xc ha.h hdb he hpl⟩
theorem powE : PassesOwn (model P w) (cxE P w K mg base N qual scope f cd A outer s₀ H₀ E).A (cxE P w K mg base N qual scope f cd A outer s₀ H₀ E).env (cxE P w K mg base N qual scope f cd A outer s₀ H₀ E).xe := PassesOwn.leaving
end
section
variable {P : Program} {w : World} {K : PySem.W.Frag} {mg : Str → Option Value} {base : Heap}
theorem Fun.okE {x qual : Str} {st : Stmt} {f : Addr} {fd : FuncData} {N ps : List Str} {k : Nat} {sp : Sp} (F : Fun K x qual st f fd) (S : FnScope N ps (defScope st)) (len : ∀ vs H Q E, sp vs H Q E → vs.length = ps.length)
  (hbody : ∀ (cdv : Value) (A : Around) (outer : List Env) (s : Shared) (H : Hp) (vs : List V) (Q : VK) (E : XK), Room k (A.deeper (envOfC qual (defScope st) s.heap.objs.size f cdv)) → sp vs H Q E →
   ∃ t, PSs (cxE P w K mg base N qual (defScope st) f cdv A outer s H E) (defBody st) t ∧ t { nx := fun _ H' => Q .non H', rt := Q } (start N vs) H) : FnOk P w K mg base (CXE P w) (k + 1) f fd ps sp := by
 obtain ⟨oc, od, kV, doc, pm, an, cdv, ct, osl, rfl, lk, hcd⟩ := F.ex
 exact zatz lk hcd S len fun A outer s H vs Q E hr hsp => hbody cdv A outer s H vs Q E hr hsp
theorem FnOk.calm {k : Nat} {f : Addr} {fd : FuncData} {ps : List Str} {sp sp' : Sp} (F : FnOk P w K mg base (CXE P w) k f fd ps sp) (h : ∀ vs H Q E, sp' vs H Q E → sp vs H Q E0) : FnOk P w K mg base CX0 k f fd ps sp' :=
 ⟨fun vs H Q E q => F.len vs H Q E0 (h _ _ _ _ q), fun A outer s H args us vs Q E hr he hb hv hs => codeAny_mono (F.run A outer s H args us vs Q E0 hr he hb hv (h _ _ _ _ hs)) fun r s' hq => by
  cases r with
  | ok fl => cases fl <;> exact hq
  | error e =>
   obtain ⟨ea, C, T, H', _, _, _, _, _, _, _, _, _, _, z⟩ := (show CXE P w outer H s E0 e s' from hq)
   exact z.elim⟩
end
end L2

namespace L2
open PySem PySem.Spec PyProof.Rows
def Cx.hand (X : Cx) (v : Value) : Cx := { X with A := X.A.mark (some v), calm := false }
section
variable {X : Cx} {pins : List (Addr × Obj)} {σ : St} {H H' : Hp} {s s' : Shared} {v : Value}
theorem Inv.hand (I : Inv X pins σ H s) (v : Value) : Inv (X.hand v) pins σ H s :=
 ⟨⟨I.ok.mod, I.ok.kind, I.ok.glob, I.ok.blt, I.ok.above, I.ok.inj, I.ok.has, I.ok.cab, (fun z => by cases z), I.ok.frames, I.ok.stk, I.ok.exf, I.ok.bs, I.ok.bsz, I.ok.noex, I.ok.exfs, I.ok.funs, I.ok.frf⟩, I.os, I.bare, I.base, I.loc, I.cell, I.free, I.freeC, I.pin, I.hok, I.len⟩
theorem Inv.unhand (J : X.Ok) (I : Inv (X.hand v) pins σ H s) : Inv X pins σ H s := ⟨J, I.os, I.bare, I.base, I.loc, I.cell, I.free, I.freeC, I.pin, I.hok, I.len⟩
theorem Inv.track {a : Addr} {o : HO} (I : Inv X pins σ H s) (hn : H a = none) (n0 : X.s₀.heap.get? a = none) (nl : a ≠ X.env.locals) (nc : ∀ x c, X.env.cells.lookup x = some c → c ≠ a) (np : ∀ p ∈ X.pn ++ pins, p.1 ≠ a)
  (new : ObjOk X.prog X.w (upd H a o) s.heap a o) : Inv X pins σ (upd H a o) s := by
 have ne : ∀ b u, H b = some u → b ≠ a := fun b u e z => by rw [z, hn] at e; cases e
 refine ⟨I.ok, I.os, I.bare, ⟨I.base.keep, I.base.slot, fun b o' e n hx => ?_, I.base.there, fun b xs e => ?_, fun b o' u e => ?_, fun b ps e => ?_⟩, I.loc, I.cell, ?_, fun x c e => ?_, fun p hp => ?_, fun b u e => ?_, I.len⟩
 ·rw [zaaw (fun z => by rw [z, n0] at e; cases e)]
  exact I.base.free b o' e n hx
 ·have q := I.base.tups b xs e
  rw [zaaw (ne b _ q)]
  exact q
 ·have q := I.base.frzs b o' u e
  rw [zaaw (ne b _ q)]
  exact q
 ·obtain ⟨more, q⟩ := I.base.tbls b ps e
  exact ⟨more, by rw [zaaw (ne b _ q)]; exact q⟩
 ·rw [zaaw (Ne.symm nl)]
  exact I.free
 ·rw [zaaw (nc x c e)]
  exact I.freeC x c e
 ·obtain ⟨q1, q2, q3⟩ := I.pin p hp
  exact ⟨q1, by rw [zaaw (np p hp)]; exact q2, q3⟩
 ·by_cases hb : b = a
  ·subst hb
   rw [zaag] at e
   cases e
   exact new
  ·rw [zaaw hb] at e
   exact (I.hok b u e).stay (fun _ _ _ q => q) (fun c q => by rw [zaaw (ne c _ q)]; exact q) fun c xs q => by rw [zaaw (ne c _ q)]; exact q
def exO (a C : Addr) : HO := .ext fun h => ∃ o vs, h.get? a = some o ∧ (o.cls = .ref C ∧ o.dict = none) ∧ o.data = .fields vs ∧ vs[2]? = some .none
theorem zaub {P : Program} {w : World} {H : Hp} {h : Heap} {a C T : Addr} {fl : Value} (f : Fl h a C T fl) : ObjOk P w H h a (exO a C) := by
 obtain ⟨oe, vs, h1, h2, h3, _, h5⟩ := f.ob
 exact ⟨⟨oe, vs, h1, h2, h3, h5⟩, ⟨oe, h1⟩, fun g1 g2 ⟨o, ws, q1, q2⟩ k => ⟨o, ws, k o q1, q2⟩⟩
theorem zar5 {P : Program} {w : World} {H : Hp} {h : Heap} {a C : Addr} (ok : HOk P w H h) (e : H a = some (exO a C)) : ∃ o vs, h.get? a = some o ∧ (o.cls = .ref C ∧ o.dict = none) ∧ o.data = .fields vs ∧ vs[2]? = some .none := (ok a _ e).1
theorem zagq {M : Model} {A : Around} {E : Value → Shared → Prop} {i : Nat} {x : Str} {pos : Pos} {Q : Unit → Shared → Prop} (I : Inv X pins σ H s) (hN : X.N.Nodup) (hi : X.N[i]? = some x) (hk : X.env.scope.names.lookup x = some .local)
  (h : ∀ s', Inv X pins (σ.set i none) H s' → Q () s') : wpAny M A (do bindName X.env x .none; unbindBehindTheSuite X.env x pos) Q E s := by
 obtain ⟨m, hn, hl⟩ := id I.loc
 have hcls : (X.env.scope.kind == .class || (X.env.scope.kind == .module && X.env.locals != X.env.globals)) = false := by rw [I.ok.kind]; rfl
 refine wpAny_nameGoes_keeps hk hn hcls fun h' v hn' hs => h _ ?_
 have nb : ∀ b, (∃ o, X.s₀.heap.get? b = some o) → b ≠ X.env.locals := fun b ⟨o, e⟩ => Nat.ne_of_lt (Nat.lt_of_lt_of_le (Heap.lt_size e) I.ok.above)
 refine ⟨I.ok, I.os, I.bare, ⟨fun b o e n hb hx => ?_, fun b o e n hb hx => ?_, I.base.free, fun b o e hx => ?_, I.base.tups, I.base.frzs, I.base.tbls⟩, ⟨_, hn', fun j y v' e1 e2 e3 => ?_⟩, fun y c e => ?_, I.free, I.freeC, fun p hp => ?_, fun b ob e => ?_, by rw [List.length_set]; exact I.len⟩
 ·exact (hs.2 b (nb b ⟨o, e⟩)).trans (I.base.keep b o e n hb hx)
 ·obtain ⟨sl, e1⟩ := I.base.slot b o e n hb hx
  exact ⟨sl, (hs.2 b (nb b ⟨o, e⟩)).trans e1⟩
 ·obtain ⟨o', e1⟩ := I.base.there b o e hx
  exact ⟨o', (hs.2 b (nb b ⟨o, e⟩)).trans e1⟩
 ·have hj : j ≠ i := fun z => by
   subst z
   rw [List.getElem?_set_self (by rw [I.len]; exact (List.getElem?_eq_some_iff.mp hi).1)] at e2
   cases e2
  rw [List.getElem?_set_ne (Ne.symm hj)] at e2
  obtain ⟨u', r', q⟩ := hl j y v' e1 e2 e3
  refine ⟨u', r', ?_⟩
  rcases q with ⟨k, e⟩ | ⟨k, c, e, z⟩
  ·have ny : y ≠ x := fun e => hj (zagj hN e1 (e ▸ hi))
   exact .inl ⟨k, by simp [ny, e]⟩
  ·exact .inr ⟨k, c, e, z.sameBut hs (I.cne y c e)⟩
 ·obtain ⟨w', z⟩ := I.cell y c e
  exact ⟨w', z.sameBut hs (I.cne y c e)⟩
 ·obtain ⟨e, n, ne, nf, d⟩ := I.pin p hp
  exact ⟨(hs.2 p.1 ne).trans e, n, ne, nf, d⟩
 ·refine (I.hok b ob e).stay (fun c w' hc q => (hs.2 c fun z => ?_).trans q) (fun _ q => q) fun _ _ q => q
  have f := I.free
  rcases hc with hc | hc
  ·rw [← z, hc, e] at f; cases f
  ·rw [← z, hc] at f; cases f
end
def XSub (K : PySem.W.Frag) (C CF : Addr) : Prop := (match K.lookup C with
 | some ⟨_, _, .cls cd, _⟩ => cd.mro.contains (.ref CF)
 | _ => false) = true
section
variable {M : Model} {A : Around} {E : Value → Shared → Prop} {s : Shared} {K : PySem.W.Frag} {C CF e : Addr}
theorem zapu {oe : Obj} {Q : Bool → Shared → Prop} (X : K.In s.heap) (c1 : XC K C) (c2 : XC K CF) (sb : XSub K C CF) (ge : s.heap.get? e = some oe) (gc : oe.cls = .ref C) (k : Q true s) : wpAny M A (excMatches (.ref e) (.ref CF)) Q E s := by
 obtain ⟨bm, N, nm, qn, bs, hdct, sn, sub, ab, col, dd, k0, k1, k2, k3, k5, mN, hC, _, _, T⟩ := c1.obj X
 obtain ⟨bm', N', nm', qn', bs', hdct', sn', sub', ab', col', dd', k0', k1', k2', k3', k5', mN', hF, _, _, T'⟩ := c2.obj X
 have z1 : (Value.ref CF :: bm').contains (.type "BaseException") = true := by rw [List.contains_cons, T'.hasType PySem.F.excBase_ValueError.hasBase, Bool.or_true]
 have z2 : (Value.ref C :: bm).contains (.ref CF) = true := by
  have sb : (match K.lookup C with
   | some ⟨_, _, .cls cd, _⟩ => cd.mro.contains (.ref CF)
   | _ => false) = true := sb
  split at sb
  case h_2 => cases sb
  case h_1 cl di cd sl ho =>
   have q := X _ _ ho
   rw [hC] at q
   cases q
   exact sb
 have ft := tc_notTuple
 obtain ⟨h, g, d, t, os⟩ := s
 unfold excMatches
 repeat (first
  | (with_reducible refine wpAny_loadPart_at ge ?_; rw [gc])
  | with_reducible refine wpAny_loadPart_at hF ?_
  | (with_reducible refine wpAny_isSubtype_exc hF ?_; rw [z1])
  | (with_reducible refine wpAny_isSubtype_exc hC ?_; rw [z2])
  | wp_step)
 exact k
end
end L2

namespace L2
open PySem PySem.Spec PyProof.Rows
abbrev XW := Value → Hp → Prop
abbrev XD := St → Value → Hp → Prop
def XE (X : Cx) (pins : List (Addr × Obj)) (σ : St) (Ew : XW) (e : Value) (s' : Shared) : Prop := ∃ H1 s1, Inv X pins σ H1 s1 ∧ CXE X.prog X.w X.stack H1 s1 (fun c _ H' => Ew c H') e s'
def XPs (X : Cx) (pins : List (Addr × Obj)) (Dx : XD) (e : Value) (s' : Shared) : Prop := ∃ σ1, XE X pins σ1 (Dx σ1) e s'
abbrev TEX := St → Hp → VK → XW → Prop
abbrev TSX := Ends → XD → St → Hp → Prop
def PEX (X : Cx) (e : Expr) (t : TEX) : Prop :=
 ∀ (pins : List (Addr × Obj)) (s : Shared) (σ : St) (H : Hp) (Q : VK) (Ew : XW), Inv X pins σ H s → t σ H Q Ew → wpAny (model X.prog X.w) X.A (eval e X.env) (EP X pins σ Q) (XE X pins σ Ew) s
def PSX (X : Cx) (st : Stmt) (t : TSX) : Prop :=
 ∀ (pins : List (Addr × Obj)) (s : Shared) (σ : St) (H : Hp) (D : Ends) (Dx : XD), Inv X pins σ H s → t D Dx σ H → wpAny (model X.prog X.w) X.A (exec st X.env) (SP X pins D) (XPs X pins Dx) s
def PSXs (X : Cx) (st : List Stmt) (t : TSX) : Prop :=
 ∀ (pins : List (Addr × Obj)) (s : Shared) (σ : St) (H : Hp) (D : Ends) (Dx : XD), Inv X pins σ H s → t D Dx σ H → wpAny (model X.prog X.w) X.A (execs st X.env) (SP X pins D) (XPs X pins Dx) s
def Nox (X : Cx) : Prop := ∀ e s, X.xe e s → False
def tCallX (sp : Sp) (t : TA) : TEX := fun σ H Q Ew => t σ H fun vs H1 => sp vs H1 Q fun c _ H' => Ew c H'
def tMethX (C : Addr) (m : Str) (sp : Sp) (ta : TE) (t : TA) : TEX := fun σ H Q Ew => ta σ H fun x H1 => ∃ a dx fs, x = .ref a ∧ H1 a = some (.ins C dx fs) ∧ fs.lookup m = none ∧ t σ H1 fun vs H2 => sp (x :: vs) H2 Q fun c _ H' => Ew c H'
def tDropX (t : TEX) : TSX := fun D Dx σ H => t σ H (fun _ H1 => D.nx σ H1) (Dx σ)
def tIfX (tc : TT) (a b : TSX) : TSX := fun D Dx σ H => tc σ H fun c H1 => if c = true then a D Dx σ H1 else b D Dx σ H1
section
variable {X : Cx} {k : Nat} {f C : Addr} {fd : FuncData} {ps : List Str} {sp : Sp} {x m : Str} {p pos apos : Pos} {e o : Expr} {es : List Expr} {ta : TE} {t : TA}
theorem zapv {st : Stmt} {t : TSX} (h1 : PSX X st t) : PSXs X [st] t := by
 intro pins s σ H D Dx I h
 refine wpAny_execs_cons (thn (h1 pins s σ H D Dx I h) fun f s1 q => ?_)
 cases f with
 | next => exact wpAny_execs_nil q
 | ret v => exact q
 | brk => exact q
 | cont => exact q
end
def tTry (K : PySem.W.Frag) (CF : Addr) (i : Nat) (tb : TSX) (ts : Addr → TS) : TS := fun D σ H => tb D (fun σ1 c H' => ∃ C, c = .ref C ∧ XC K C ∧ XSub K C CF ∧ ∀ ea, H' ea = none →
 ts ea { nx := fun σ2 H2 => D.nx (σ2.set i none) H2, rt := D.rt, bk := fun σ2 H2 => D.bk (σ2.set i none) H2, ct := fun σ2 H2 => D.ct (σ2.set i none) H2 } (σ1.set i (some (.ref ea))) (upd H' ea (exO ea C))) σ H
section
variable {X : Cx}
theorem zauc {x n : Str} {CF : Addr} {i : Nat} {body suite : List Stmt} {b₀ : Stmt} {tb : TSX} {ts : Addr → TS} {np hpos pos : Pos} (hx : Nox X) (hst : X.stack = X.env :: X.outer) (hfr : X.env.frame = some X.env.locals) (hex : X.ex = []) (hN : X.N.Nodup) (hi : X.N[i]? = some n)
  (hk : X.env.scope.names.lookup n = some .local) (hg : Gl X x) (hm : X.mg x = some (.ref CF)) (xf : XC X.K CF) (hb : PSXs X body tb) (hs : ∀ ea, PSs (X.hand (.ref ea)) (b₀ :: suite) (ts ea)) (hdb : (x == ("__debug__" : Str)) = false := by decide) :
  PS X (.Try body [.ExceptHandler (some (.Name x np)) (some n) (b₀ :: suite) hpos] [] [] pos) (tTry X.K CF i tb ts) := by
 intro pins s σ H D I h
 refine wpAny_Try_except (wpAny_mono (hb pins s σ H D _ I h) (fun f s1 q => ?_) fun e s1 q => ?_)
 ·cases f with
  | next => exact wpAny_execs_nil q
  | ret v => exact q
  | brk => exact q
  | cont => exact q
 ·obtain ⟨σ1, H1, s2, I2, ea, C, T, H', rfl, os, bare, un, hok, fl, n1, n2, t1, t2, C', ec, xc, sb, q⟩ := q
  obtain rfl : C = C' := by cases ec; rfl
  have J : Inv X pins σ1 H' s1 := I2.call' (ch := []) os un hok bare (fun b z => absurd z (by simp))
  have fr : X.A.frames = some (X.env :: X.outer) := by rw [← hst]; exact J.ok.frames
  have ff : s1.heap.FunFrames X.base (X.env :: X.outer) := by rw [← hst]; exact J.stack
  refine zamf fr ff hfr fl fun h2 T1 kb fl2 nT => zagp fl2 fun h3 kb3 fl3 => ?_
  have k3 : KB [T, ea, T1] (frs X.stack) s1.heap h3 := by rw [hst]; exact kb.trans kb3.fs
  have hA : ∀ b ∈ [T, ea, T1], X.s₀.heap.get? b = none ∧ H' b = none ∧ b ≠ X.env.locals ∧ (∀ x c, X.env.cells.lookup x = some c → c ≠ b) ∧ ∀ p ∈ X.pn ++ pins, p.1 ≠ b := fun b hb => by
   simp only [List.mem_cons, List.not_mem_nil, or_false] at hb
   rcases hb with rfl | rfl | rfl
   ·exact ⟨I2.alien0 hex n2, t2, I2.alien n2⟩
   ·exact ⟨I2.alien0 hex n1, t1, I2.alien n1⟩
   ·exact ⟨J.alien0 hex nT, J.hok.alien nT, J.alien nT⟩
  have J3 : Inv X pins σ1 H' { s1 with heap := h3 } := J.fly k3 hA
  have J3h := J3.hand (.ref ea)
  obtain ⟨oe, vs, g1, ⟨g2, _⟩, _⟩ := fl3.ob
  refine wpAny_handleBy_cons (codeAny_handlers_test (zaeb (X := X.hand (.ref ea)) J3h hg hm (zapu J3.kIn xc xf sb g1 g2 ?_) hdb)) (by intro z; cases z)
  refine codeAny_handlers_suite_as ?_
  refine zagp fl3 fun h4 kb4 fl4 => ?_
  have J4 : Inv X pins σ1 H' { s1 with heap := h4 } := J3.fly kb4.fs fun b hb => hA b (by simp only [List.mem_cons, List.not_mem_nil, or_false] at hb ⊢; exact .inr (.inr hb))
  obtain ⟨a0, a1, a2, a3, a4⟩ := hA ea (by simp)
  have J5 := (J4.track (o := exO ea C) a1 a0 a2 a3 a4 (zaub fl4)).hand (.ref ea)
  refine zae0 (X := X.hand (.ref ea)) (v := V.ref ea) J5 hN hi (.inl hk) (show RelV (V.ref ea) (Value.ref ea) from rfl) (fun s5 J6 => ?_) (.inr hk)
  refine wpAny_mono (hs ea pins s5 _ _ _ J6 (q ea a1)) (fun f s6 q6 => ?_) fun _ _ z => (hx _ _ z).elim
  cases f with
  | next =>
   obtain ⟨σ7, H7, J7, q7⟩ := q6
   exact zagq (J7.unhand J.ok) hN hi hk fun s' J8 => ⟨_, H7, J8, q7⟩
  | brk =>
   obtain ⟨σ7, H7, J7, q7⟩ := q6
   exact zagq (J7.unhand J.ok) hN hi hk fun s' J8 => ⟨_, H7, J8, q7⟩
  | cont =>
   obtain ⟨σ7, H7, J7, q7⟩ := q6
   exact zagq (J7.unhand J.ok) hN hi hk fun s' J8 => ⟨_, H7, J8, q7⟩
  | ret u =>
   obtain ⟨v, σ7, H7, J7, rv, q7⟩ := q6
   exact zagq (J7.unhand J.ok) hN hi hk fun s' J8 => ⟨v, _, H7, J8, rv, q7⟩
end
end L2

namespace L2
open PySem PySem.Spec PyProof.Rows
section
variable {prog : Program} {w : World} {A : Around} {E : Value → Shared → Prop} {s : Shared}
end
def ItrH (ea : Addr) (lo : Int) (n : Nat) : It := ⟨fun i _ => i < n, fun i H x H' => H' = H ∧ x = .int (lo + i), fun i H => n ≤ i ∧ ∃ C, H ea = some (exO ea C)⟩
def PIG (G : Cx → Prop) (X : Cx) (tg iter : Expr) (wi : TI) : Prop :=
 ∀ (pins : List (Addr × Obj)) (s : Shared) (σ : St) (H : Hp) (R : It → Hp → Prop), Inv X pins σ H s → wi σ H R →
  wpAny (model X.prog X.w) X.A (eval iter X.env) (fun v s1 => wpAny (model X.prog X.w) X.A (pyIter v) (fun itv s2 => ∃ (it : Addr) (fp : List Addr) (tn : Nat → Heap → Prop) (J : It) (H' : Hp), itv = .ref it ∧ Inv X pins σ H' s2 ∧ TurnX G X.prog X.w X.K tg J fp it tn ∧ tn 0 s2.heap ∧ (∀ b ∈ fp, FpOk X pins H' b) ∧ R J H') X.xe s1) X.xe s
def iRngH (ea : Addr) (ta : TA) : TI := fun σ H R => ta σ H fun vs H1 => ∃ j : Int, vs = [.int j] ∧ -(2 ^ 62) ≤ j ∧ j < 2 ^ 62 ∧ R (ItrH ea 0 j.toNat) H1
section
variable {X : Cx} {tg : Expr}
end
end L2

namespace L2
open PySem PySem.Spec PyProof.Rows PySem.W
structure XA (K : PySem.W.Frag) (C : Addr) : Prop where
 xc : XC K C
 ga : findIn K (.ref C) "__getattribute__" = some (some (.builtin "BaseException.__getattribute__"))
 gt : findIn K (.ref C) "__getattr__" = some none
 cl : findIn K (.ref C) "__class__" = some (some (.builtin "object.__class__"))
 sg : specialIn K (.builtin "object.__class__") "__get__" = some (some (.builtin "getset_descriptor.__get__"))
 tk : takesIn K (.builtin "object.__class__") = some true
 mo : mroIn K C (.type "object") = some true
 cs : (clsIn K C).isSome = true
theorem zagr {K : Frag} {C : Addr} {name : Str} {a g : Value} (hc : (clsIn K C).isSome = true) (ha : findIn K (.ref C) name = some (some a)) (hg : specialIn K a "__get__" = some (some g)) (ht : takesIn K a = some true) : findObj K C none name = some (.bind g a) := by
 obtain ⟨cd, hc⟩ := Option.isSome_iff_exists.mp hc
 unfold findObj
 rw [hc, Option.bind_some, ha, Option.bind_some]
 simp [hg, ht]
section
variable {prog : Program} {w : World} {A : Around} {E : Value → Shared → Prop} {s : Shared} {K : Frag} {x C : Addr} {ox : Obj}
theorem zamh {Q : Option Value → Shared → Prop} (X : K.In s.heap) (xa : XA K C) (I : InstAt s.heap x ox C none) (h : Q (some (.ref C)) { s with toks := s.toks + 1 }) : wpAny (model prog w) A (getAttr? (.ref x) "__class__") Q E s := by
 obtain ⟨bm, N, nm, qn, bs, hdct, sn, sub, ab, col, dd, k0, k1, k2, k3, k5, mN, hC, hN, hni, T⟩ := xa.xc.obj X
 obtain ⟨hh, g, d, t, os⟩ := s
 have L0 := I.type (M := model prog w)
 have L1 := looks_findIn (M := model prog w) X xa.ga
 have L2 := looks_findIn (M := model prog w) X xa.gt
 have L3 := looks_find (M := model prog w) X I (zagr xa.cs xa.cl xa.sg xa.tk)
 have f3 := PySem.F.attr_ValueError.ga.bind (.ref x)
 unfold getAttr? getAttrBy? getAttrBy
 refine wpAny_bind (wpAny_mkText (wpAny_bind (wpAny_attempt (wpAny_holding (wpAny_bind (L0.at (wpAny_bind (L1.at ?_))))))))
 dsimp only
 have b0 : (Value.builtin "BaseException.__getattribute__" == Value.builtin "object.__getattribute__") = false := by decide +kernel
 rw [if_neg (by rw [b0, Bool.and_false]; exact Bool.false_ne_true)]
 unfold getAttrByItsOwn hookBefore
 rw [if_pos (show onTheHeap (Value.ref C) = true from rfl)]
 refine wpAny_bind (L2.at (wpAny_bind (wpAny_attempt (wpAny_holding ?_))))
 unfold callGetattribute
 rw [if_neg (by decide +kernel)]
 unfold boundAndCalled
 refine wpAny_bind (wpAny_of_eq f3 ?_)
 refine wpAny_call (codeAny_call_builtin PySem.F.attr_ValueError.ga.plain PySem.F.entry_bexc_ga ?_)
 have y1 : builtinKind "BaseException.__getattribute__" = some .slot := by decide +kernel
 have y2 : splitId "BaseException.__getattribute__" = some ("BaseException", "__getattribute__") := by decide +kernel
 have y3 : (Value.ref C :: bm).contains (.type "BaseException") = true := by rw [List.contains_cons, T.hasType PySem.F.excBase_ValueError.hasBase, Bool.or_true]
 have y4 := PySem.F.args_bexc_ga (.ref x) (.str "__class__" t)
 have gx := I.at_
 have gc := I.cls
 simp only [checkBuiltinCall, y1, y2]
 refine wpAny_bind ?_
 unfold isInstance
 repeat (first
  | with_reducible refine wpAny_bind (L3.at ?_)
  | with_reducible refine L3.at ?_
  | (with_reducible refine wpAny_loadPart_at gx ?_; rw [gc])
  | (with_reducible refine wpAny_isSubtype_exc hC ?_; rw [y3])
  | wp_step)
 refine class_get (s := ⟨hh, g, d, t + 1, os⟩) (od := none) X I xa.mo ?_
 unfold ret
 refine wpAny_pure ?_
 exact handed_on rfl (wpAny_pure h)
theorem zaj2 (xa : XA K C) : KitX K (.ref x) (.ref C) (fun h => ∃ ox, InstAt h x ox C none) where
 ty := fun _ _ _ ⟨_, I⟩ => I.type
 it := fun _ _ X _ => by
  obtain ⟨cd, hcd⟩ := Option.isSome_iff_exists.mp xa.cs
  unfold clsIn at hcd
  split at hcd
  case h_1 c' d' cd' sl' ho =>
   intro A' Q' E' s' k q
   unfold isType loadHead
   exact wpAny_bind (wpAny_loadPart (k _ _ (X _ _ ho)) (wpAny_pure q))
  case h_2 => cases hcd
 ne := fun h tp dd its n sl X htp => by
  obtain ⟨cd, hcd⟩ := Option.isSome_iff_exists.mp xa.cs
  refine Bool.eq_false_iff.mpr fun q => ?_
  have e : C = tp := Value.ref.inj (beq_iff_eq.mp q)
  subst e
  unfold clsIn at hcd
  split at hcd
  case h_1 c' d' cd' sl' ho =>
   have z := (X _ _ ho).symm.trans htp
   cases z
  case h_2 => cases hcd
 ca := fun X ⟨_, I⟩ k => zamh X xa I k
end
def rIsX (K : Frag) : List V → Hp → VK → Prop := fun xs H Q => ∃ (ea C : Addr) (c : V) (b : Bool), xs = [.ref ea, c] ∧ H ea = some (exO ea C) ∧ XA K C ∧ ((∃ CF, c = .ref CF ∧ kitOne K (.ref C) (.ref CF) = some b) ∨ ∃ T, c = .ty T ∧ kitOne K (.ref C) (.type T) = some b) ∧ Q (.bl b) H
theorem zab0 {X : Cx} : CallR X (.builtin "isinstance") (rIsX X.K) := by
 intro pins s σ H xs us Q I r h
 obtain ⟨ea, C, c, b, rfl, he, xa, hc, q⟩ := h
 obtain ⟨u, v, rfl, ru, rv⟩ := vals2 r
 obtain rfl : u = Value.ref ea := ru
 obtain ⟨o, vs, g1, ⟨g2, g3⟩, g4, _⟩ := zar5 I.hok he
 have J : ∃ ox, InstAt s.heap ea ox C none := ⟨o, g1, g2, by unfold notCls; rw [g4], by rw [g3]; trivial⟩
 rcases hc with ⟨CF, rfl, e⟩ | ⟨T, rfl, e⟩
 ·obtain rfl : v = Value.ref CF := rv
  exact kia_one (zaj2 xa) I.kIn J e (fun z => by cases z) fun tk => ⟨.bl b, H, I.tok _, rfl, q⟩
 ·obtain rfl : v = Value.type T := rv
  exact kia_one (zaj2 xa) I.kIn J e (fun z => by cases z) fun tk => ⟨.bl b, H, I.tok _, rfl, q⟩
end L2

namespace L2
open PySem PySem.Spec PyProof.Rows
structure RoomH (ea : Addr) (k : Nat) (A : Around) : Prop where
 hd : A.handled = some (.ref ea)
 dp : A.depth + 3 * k + 5 < recursionLimit
 un : A.units + 16 * k + 200 < cLine
structure FnOkH (P : Program) (w : World) (K : PySem.W.Frag) (mg : Str → Option Value) (base : Heap) (k : Nat) (f : Addr) (fd : FuncData) (ps : List Str) (sp : Addr → Sp) : Prop where
 len : ∀ ea vs H Q E, sp ea vs H Q E → vs.length = ps.length
 run : ∀ (ea : Addr) (A : Around) (outer : List Env) (s : Shared) (H : Hp) (args : Args) (us : List Value) (vs : List V) (Q : VK), RoomH ea k A → Env0 P w K mg base A outer s H → BindsTo s fd args (ps.zip us) → Vals vs us → sp ea vs H Q E0 →
  codeAny (model P w) A (.call (.ref f) args) (CR CX0 outer P w H s Q E0) s
structure DefOkH (P : Program) (w : World) (K : PySem.W.Frag) (mg : Str → Option Value) (base : Heap) (k : Nat) (x : Str) (ps : List Str) (sp : Addr → Sp) : Prop where
 ex : ∃ (f : Addr) (fd : FuncData), FnOkH P w K mg base k f fd ps sp ∧ Binds K fd ps [] ∧ PySem.W.keepIn K (.ref f) = true ∧ mg x = some (.ref f)
def tCallH (ea : Addr) (sp : Addr → Sp) (t : TA) : TE := fun σ H Q => t σ H fun vs H1 => sp ea vs H1 Q E0
section
variable {X : Cx} {k : Nat} {x : Str} {ps : List Str} {p pos : Pos} {e : Expr} {es : List Expr} {t : TA}
end
def cxH (P : Program) (w : World) (K : PySem.W.Frag) (mg : Str → Option Value) (base : Heap) (N : List Str) (qual : Str) (scope : Scope) (f : Addr) (cd : Value) (A : Around) (outer : List Env) (s : Shared) (H : Hp) : Cx :=
 { cxOf CX0 P w K mg base N qual scope f cd { A with handled := none } outer s H E0 with A := A.deeper (envOfC qual scope s.heap.objs.size f cd), calm := false, xe := fun _ _ => False }
section
variable {X : Cx} {sc : Scope} {own : List Str} {fr : List Nat} {N' : List Str} {tg elt iter : Expr} {ifs : List Expr} {g : TG} {tt : TT} {te : TE} {wi : TI} {pos : Pos} {G : Cx → Prop}
end
section
variable {X : Cx}
theorem zar6 {x n : Str} {CF : Addr} {i : Nat} {body suite : List Stmt} {b₀ : Stmt} {tb : TSX} {ts : Addr → TS} {np hpos pos : Pos} (hx : Nox X) (hst : X.stack = X.env :: X.outer) (hfr : X.env.frame = some X.env.locals) (hex : X.ex = []) (hN : X.N.Nodup) (hi : X.N[i]? = some n)
  (hk : X.env.scope.names.lookup n = some .local) (hg : Gl X x) (hm : X.mg x = some (.ref CF)) (xf : XC X.K CF) (hb : PSXs X body tb) (hs : ∀ ea, Pr (PSs (X.hand (.ref ea)) (b₀ :: suite) (ts ea))) (hdb : (x == ("__debug__" : Str)) = false := by decide) :
  Pr (PS X (.Try body [.ExceptHandler (some (.Name x np)) (some n) (b₀ :: suite) hpos] [] [] pos) (tTry X.K CF i tb ts)) := ⟨zauc hx hst hfr hex hN hi hk hg hm xf hb (fun ea => (hs ea).h) hdb⟩
end
end L2

namespace L2
open PySem PySem.Spec PyProof.Rows PySem.SeqAt
theorem zagf : ∀ {ns : List Int} {its : List Value}, Vals (ns.map V.int) its → ∃ ps : List (Int × Tok), its = ps.map (fun p => Value.int p.1 p.2) ∧ ps.map (·.1) = ns
 | [], _, .nil => ⟨[], rfl, rfl⟩
 | n :: ns, _, .cons r t => by
  obtain ⟨ps, e, f⟩ := zagf t
  obtain ⟨k, rfl⟩ := r
  exact ⟨(n, k) :: ps, by rw [e]; rfl, by rw [← f]; rfl⟩
section
variable {X : Cx}
theorem zapw (hc : X.calm = true) : CallR X (.builtin "sum") (fun xs H Q => ∃ (p : Addr) (ns : List Int), xs = [.ref p] ∧ H p = some (.lst (ns.map V.int)) ∧ Q (.int ns.sum) H) := by
 intro pins s σ H xs us Q I r h
 obtain ⟨p, ns, rfl, hp, q⟩ := h
 obtain ⟨u, rfl, ru⟩ := vals1 r
 cases ru
 obtain ⟨z, its, n, rv, e⟩ := I.hok p _ hp
 obtain ⟨ps, rfl, f⟩ := zagf rv
 have ea : (ps.map fun p => Value.int p.1 p.2).toArray = intItems ps.toArray := by simp [intItems]
 have hl : s.heap.IsList p (intItems ps.toArray) := ⟨_, e, rfl, n, by rw [← ea]⟩
 refine sum_intListG (by first | exact I.ok.hd hc | (show X.A.in1.handled = none; exact I.ok.hd hc)) hl fun h' tk t' hk => ?_
 refine ⟨.int ns.sum, H, I.kept (t' := tk) hk, ⟨t', ?_⟩, q⟩
 rw [preSum_eq, List.take_of_length_le (by simp)]
 show Value.int (ps.map (·.1)).sum t' = _
 rw [f]
end
def Itv (K : PySem.W.Frag) (a : Addr) (xs : List V) : It :=
 ⟨fun i H => SqL K H a xs ∧ i < xs.length, fun i H x H' => H' = H ∧ xs.reverse[i]? = some x, fun i H => SqL K H a xs ∧ xs.length ≤ i⟩
section
variable {X : Cx} {tg : Expr}
def iRev (K : PySem.W.Frag) (ta : TA) : TI := fun σ H R => ta σ H fun vs H1 => ∃ a xs, vs = [.ref a] ∧ SqL K H1 a xs ∧ R (Itv K a xs) H1
end
def Eq0 (x y : V) : Prop := x = y ∧ ((∃ i, x = .int i) ∨ ∃ a, x = .ref a)
def Eq1 (H : Hp) (x y : V) : Prop := ∃ (p q : Addr) (zs : List V), x = .ref p ∧ y = .ref q ∧ p ≠ q ∧ H p = some (.lst zs) ∧ H q = some (.lst zs) ∧ ∀ z ∈ zs, Eq0 z z
section
variable {X : Cx}
def rNeL : R2 := fun x y H Q => ∃ (a b : Addr) (xs ys : List V), x = .ref a ∧ y = .ref b ∧ H a = some (.lst xs) ∧ H b = some (.lst ys) ∧ xs.length = ys.length ∧ (∀ (i : Nat) (x y : V), xs[i]? = some x → ys[i]? = some y → Eq1 H x y) ∧ Q (.bl false) H
end
end L2

namespace L2
open PySem PySem.Spec PyProof.Rows PySem.SeqAt
def Sca (x : V) : Prop := (∃ i, x = .int i) ∨ ∃ t, x = .str t
structure ScaL (xs : List V) : Prop where
 h : ∀ z ∈ xs, Sca z
theorem zar7 {α : Type} [BEq α] [LawfulBEq α] [DecidableEq α] (a b : α) : (a == b) = decide (a = b) := by
 by_cases h : a = b
 ·subst h; simp
 ·rw [decide_eq_false h]; exact beq_eq_false_iff_ne.mpr h
theorem zaud {A : Around} {s : Shared} {x y : V} {u v : Value} (hx : Sca x) (hy : Sca y) (ru : RelV x u) (rv : RelV y v) : EqAt A s u v (decide (x = y)) := by
 rcases hx with ⟨i, rfl⟩ | ⟨i, rfl⟩ <;> rcases hy with ⟨j, rfl⟩ | ⟨j, rfl⟩ <;> obtain ⟨t, rfl⟩ := ru <;> obtain ⟨t', rfl⟩ := rv
 ·have := EqAt.int_int (A := A) (s := s) i t j t'
  rw [zar7] at this
  rwa [show decide (V.int i = V.int j) = decide (i = j) from by by_cases h : i = j <;> simp [h]]
 ·rw [show decide (V.int i = V.str j) = false from by simp]
  exact EqAt.int_str i t j t'
 ·rw [show decide (V.str i = V.int j) = false from by simp]
  exact EqAt.str_int i t j t'
 ·have := EqAt.str_str (A := A) (s := s) i t j t'
  rw [show decide (V.str i = V.str j) = (i == j) from by
   by_cases h : i = j
   ·subst h; simp
   ·rw [decide_eq_false (fun z => h (V.str.inj z))]; exact (beq_eq_false_iff_ne.mpr h).symm]
  exact this
theorem zaue {xs ys : List V} : ((List.range (min xs.length ys.length)).all (fun j => decide (xs[j]? = ys[j]?)) && xs.length == ys.length) = decide (xs = ys) := by
 by_cases h : xs = ys
 ·subst h
  simp
 ·rw [decide_eq_false h]
  by_cases hl : xs.length = ys.length
  ·rw [Bool.and_eq_false_iff]
   refine .inl ?_
   rw [List.all_eq_false]
   refine Classical.byContradiction fun z => h (List.ext_getElem? fun j => ?_)
   by_cases hj : j < xs.length
   ·refine Classical.byContradiction fun y => z ⟨j, List.mem_range.mpr (by omega), by simpa using y⟩
   ·rw [List.getElem?_eq_none (by omega), List.getElem?_eq_none (by omega)]
  ·rw [Bool.and_eq_false_iff]
   exact .inr (beq_eq_false_iff_ne.mpr hl)
theorem zapx {A : Around} {s : Shared} {xs ys : List V} {us vs : List Value} (hx : ScaL xs) (hy : ScaL ys) (ru : Vals xs us) (rv : Vals ys vs) (j : Nat) (h1 : j < us.toArray.size) (h2 : j < vs.toArray.size) :
  EqAt A s us.toArray[j] vs.toArray[j] (decide (xs[j]? = ys[j]?)) := by
 have l1 := ru.length
 have l2 := rv.length
 have h1' : j < us.length := by simpa using h1
 have h2' : j < vs.length := by simpa using h2
 have gx : xs[j]? = some (xs[j]'(by omega)) := List.getElem?_eq_getElem (by omega)
 have gy : ys[j]? = some (ys[j]'(by omega)) := List.getElem?_eq_getElem (by omega)
 obtain ⟨w1, hw1, r1⟩ := ru.get gx
 obtain ⟨w2, hw2, r2⟩ := rv.get gy
 have k1 : us.toArray[j] = w1 := by
  have := List.getElem?_eq_getElem h1'
  rw [hw1] at this
  simpa using (Option.some.inj this).symm
 have k2 : vs.toArray[j] = w2 := by
  have := List.getElem?_eq_getElem h2'
  rw [hw2] at this
  simpa using (Option.some.inj this).symm
 rw [k1, k2, gx, gy]
 have e : decide (some (xs[j]'(by omega)) = some (ys[j]'(by omega))) = decide (xs[j]'(by omega) = ys[j]'(by omega)) := by
  by_cases h : (xs[j]'(by omega)) = (ys[j]'(by omega)) <;> simp [h]
 rw [e]
 exact zaud (hx.h _ (List.getElem_mem _)) (hy.h _ (List.getElem_mem _)) r1 r2
section
variable {X : Cx}
def rEqT : R2 := fun x y H Q => ∃ (a b : Addr) (xs ys : List V), x = .ref a ∧ y = .ref b ∧ H a = some (.tup xs) ∧ H b = some (.tup ys) ∧ ScaL xs ∧ ScaL ys ∧ Q (.bl (decide (xs = ys))) H
def rNeT : R2 := fun x y H Q => ∃ (a b : Addr) (xs ys : List V), x = .ref a ∧ y = .ref b ∧ H a = some (.tup xs) ∧ H b = some (.tup ys) ∧ ScaL xs ∧ ScaL ys ∧ Q (.bl (!decide (xs = ys))) H
def rEqS : R2 := fun x y H Q => ∃ (a b : Addr) (xs ys : List V), x = .ref a ∧ y = .ref b ∧ H a = some (.lst xs) ∧ H b = some (.lst ys) ∧ ScaL xs ∧ ScaL ys ∧ Q (.bl (decide (xs = ys))) H
def rNeS : R2 := fun x y H Q => ∃ (a b : Addr) (xs ys : List V), x = .ref a ∧ y = .ref b ∧ H a = some (.lst xs) ∧ H b = some (.lst ys) ∧ ScaL xs ∧ ScaL ys ∧ Q (.bl (!decide (xs = ys))) H
theorem zauf (hu : X.A.units + 64 < cLine) : OpR X (compareOp .Eq) rEqS := by
 intro pins s σ H x y v u Q I rx ry h
 obtain ⟨a, b, xs, ys, rfl, rfl, ha, hb, hx, hy, q⟩ := h
 cases rx
 cases ry
 obtain ⟨z, its, n, rv, e⟩ := I.hok a _ ha
 obtain ⟨z2, its2, n2, rv2, e2⟩ := I.hok b _ hb
 have i1 : s.heap.IsList a its.toArray := ⟨_, e, rfl, n, rfl⟩
 have i2 : s.heap.IsList b its2.toArray := ⟨_, e2, rfl, n2, rfl⟩
 by_cases hl : xs.length = ys.length
 ·have key := RcAt.lists (A := X.A) (s := s) i1 i2 (by simp [← rv.length, ← rv2.length, hl]) (by omega) (zapx hx hy rv rv2)
  have ea : ((List.range its.toArray.size).all (fun j => decide (xs[j]? = ys[j]?))) = decide (xs = ys) := by
   rw [← zaue, List.size_toArray, ← rv.length, ← hl, Nat.min_self]; simp
  rw [ea] at key
  exact key X.prog X.w X.xe _ ⟨.bl _, H, I, rfl, q⟩
 ·have key := RcAt.lists_lengths (A := X.A) (s := s) i1 i2 (by simp [← rv.length, ← rv2.length, hl]) (by omega)
  have ea : decide (xs = ys) = false := decide_eq_false fun z => hl (by rw [z])
  rw [ea] at q
  exact key X.prog X.w X.xe _ ⟨.bl _, H, I, rfl, q⟩
def rInN : R2 := fun x y H Q => ∃ (b : Addr) (ys : List V), x = .non ∧ y = .ref b ∧ H b = some (.lst ys) ∧ (∀ z ∈ ys, ∃ p, z = .ref p ∧ ((∃ zs, H p = some (.lst zs)) ∨ ∃ zs, H p = some (.tup zs))) ∧ Q (.bl false) H
end
end L2


namespace L2
open PySem PySem.W PyProof.Rows
structure Pm (n : Nat) (p : Array Nat) : Prop where
 perm : p.toList.Perm (List.range n)
section
variable {n : Nat} {L : Nat → Nat → Prop} [DecidableRel L] {cmp : Nat → Nat → (Bool → Shared → Prop) → Shared → Prop} {s : Shared}
def lR (L : Nat → Nat → Prop) (p : Array Nat) (i j : Nat) : Prop := L (p.getD i 0) (p.getD j 0)
instance lR_dec (p : Array Nat) (i j : Nat) : Decidable (lR L p i j) := inferInstanceAs (Decidable (L (p.getD i 0) (p.getD j 0)))
def Up (L : Nat → Nat → Prop) (p : Array Nat) (m : Nat) : Prop := ∀ i j, i < j → j < m → lR L p i j
def Dn (L : Nat → Nat → Prop) (p : Array Nat) (m : Nat) : Prop := ∀ i j, i < j → j < m → lR L p j i
structure Ord (n : Nat) (L : Nat → Nat → Prop) [DecidableRel L] (cmp : Nat → Nat → (Bool → Shared → Prop) → Shared → Prop) (s : Shared) : Prop where
 tr : ∀ {i j k}, L i j → L j k → L i k
 tot : ∀ i j, i < n → j < n → i ≠ j → ¬ L i j → L j i
 ask : ∀ i j C, i < n → j < n → C (decide (L i j)) s → cmp i j C s
end
end L2

namespace L2
open PySem PySem.W PyProof.Rows PySem.Calls
def KeptBut (a : Addr) (h h' : Heap) : Prop := ∀ b o, b ≠ a → h.get? b = some o → h'.get? b = some o
section
variable {prog : Program} {w : World} {A : Around} {E : Value → Shared → Prop} {s : Shared} {a : Addr} {vs : List Value} {κ : SortKind} {L : Nat → Nat → Prop} [DecidableRel L]
end
end L2

namespace L2
open PySem PySem.W PyProof.Rows PySem.SeqAt
def kLt : Key → Key → Prop
 | .inl a, .inl b => a < b
 | .inr x, .inr y => x.cps.toList < y.cps.toList
 | _, _ => False
instance kLt_dec : (a b : Key) → Decidable (kLt a b)
 | .inl a, .inl b => inferInstanceAs (Decidable (a < b))
 | .inr x, .inr y => inferInstanceAs (Decidable (x.cps.toList < y.cps.toList))
 | .inl _, .inr _ => isFalse id
 | .inr _, .inl _ => isFalse id
def kLex : List Key → List Key → Prop
 | k :: ks, k' :: ks' => if k = k' then kLex ks ks' else kLt k k'
 | _, _ => False
instance kLex_dec : (a b : List Key) → Decidable (kLex a b)
 | k :: ks, k' :: ks' => by
  unfold kLex
  by_cases h : k = k'
  ·rw [if_pos h]; exact kLex_dec ks ks'
  ·rw [if_neg h]; exact kLt_dec k k'
 | [], [] => isFalse id
 | [], _ :: _ => isFalse id
 | _ :: _, [] => isFalse id
section
variable {prog : Program} {w : World} {A : Around} {E : Value → Shared → Prop} {s : Shared}
end
end L2

namespace L2
open PySem PySem.W PyProof.Rows
structure DAt (h : Heap) (d : Addr) (es : Array DictEntry) (ep : Nat) : Prop where
 ex : ∃ o, h.get? d = some o ∧ o.ExactDict ∧ o.data = .dict es ep
theorem DAt.at {h h' : Heap} {d : Addr} {es : Array DictEntry} {ep : Nat} (m : DAt h d es ep) (k : ∀ o, h.get? d = some o → h'.get? d = some o) : DAt h' d es ep := let ⟨o, e, r⟩ := m.ex; ⟨o, k o e, r⟩
theorem DAt.ty {s : Shared} {d : Addr} {es : Array DictEntry} {ep : Nat} (m : DAt s.heap d es ep) : s.TypeIs (.ref d) "dict" := let ⟨o, e, r, _⟩ := m.ex; ⟨o, e, r.1⟩
def kitO (d : Addr) (i n ep : Nat) : Obj := { cls := .type "dict_keyiterator", data := .fields #[.ref d, .int i 0, .int n 0, .int ep 0] }
section
variable {prog : Program} {w : World} {A : Around} {E : Value → Shared → Prop} {s : Shared} {d it : Addr} {es : Array DictEntry} {ep i : Nat}
theorem zami {Q : Value → Shared → Prop} (hd : (d == sysModules) = false) (m : DAt s.heap d es ep) (q : Q (.ref s.heap.objs.size) { s with heap := s.heap.push (kitO d 0 es.size ep) }) : wpAny (model prog w) A (pyIter (.ref d)) Q E s := by
 obtain ⟨o, ho, hc, hdat⟩ := m.ex
 refine wpAny_pyIter_slot m.ty F.slot_dict_iter (wpAny_call_entry F.slot_dict_iter m.ty F.entry_dict_iter ?_ (F.args_dict_iter_1 _))
 unfold Builtin.«dict.__iter__» Builtin.Dict.dictSlotNone Builtin.Dict.showsAll
 refine wpAny_bind (wpAny_bind (wpAny_notOrdered_dict m.ty (wpAny_pure ?_)))
 refine wpAny_bind (m := Builtin.Dict.addrOf (.ref d)) (wpAny_pure ?_)
 rw [if_neg (by rw [hd]; simp)]
 refine wpAny_bind (wpAny_pure (wpAny_bind (wpAny_dictEntries ho hdat (wpAny_bind (wpAny_dictEpoch ho hdat ?_)))))
 exact wpAny_bind (wpAny_newObj_type (wpAny_pure ⟨_, rfl, "dict_keyiterator", _, ⟨_, Heap.get?_push_size _ rfl, rfl⟩, F.slot_dict_keyiterator_next.lookup, by simpa [rawInt, kitO] using q⟩))
theorem zamj (hit : s.heap.get? it = some (kitO d i es.size ep)) : s.TypeIs (.ref it) "dict_keyiterator" := ⟨_, hit, rfl⟩
theorem zamk {Q : Option Value → Shared → Prop} (hit : s.heap.get? it = some (kitO d i es.size ep)) (m : DAt s.heap d es ep) (hi : i < es.size)
  (q : ∀ h', h'.get? it = some (kitO d (i + 1) es.size ep) → Heap.SameBut it s.heap h' → Q (some (es[i]).key) { s with heap := h' }) : wpAny (model prog w) A (pyNext (.ref it)) Q E s := by
 obtain ⟨od, hod, hcd, hdd⟩ := m.ex
 have T := zamj hit
 unfold pyNext
 refine wpAny_bind (wpAny_attempt (wpAny_callSpecial?_slot (name := Str.ofString "__next__") T F.slot_dict_keyiterator_next (wpAny_call_entry F.slot_dict_keyiterator_next T F.entry_dict_keyiterator_next ?_ (F.args_dict_keyiterator_next_1 _))))
 refine wpAny_bind (wpAny_pure (wpAny_bind (wpAny_bind ?_)))
 refine wpAny_bind (wpAny_typeNameOfWhole_keyiter T (wpAny_pure (wpAny_bind (wpAny_fieldsOf hit rfl ?_))))
 simp only [show Builtin.Dict_items.ownsTuple "dict_keyiterator" = false from by decide, Bool.false_eq_true, if_false]
 show wpAny _ _ (if (Value.ref d == Value.none) = true then _ else _) _ _ s
 rw [if_neg (by intro z; cases z)]
 refine wpAny_bind (wpAny_pure (wpAny_bind (wpAny_dictEntries hod hdd ?_)))
 rw [if_neg (by simp)]
 refine wpAny_bind (wpAny_pure (wpAny_bind (wpAny_dictEpoch hod hdd ?_)))
 rw [if_neg (by simp)]
 refine wpAny_pure ?_
 simp only [show ¬ ((i : Int) < 0) from by omega, if_false, Int.toNat_natCast, Array.getElem?_eq_getElem hi]
 refine wpAny_bind (wpAny_bind (wpAny_typeNameOfWhole_keyiter T (wpAny_pure (wpAny_bind (wpAny_isOneOf_keyiter T ?_)))))
 show wpAny _ _ (setField (.ref it) 1 (rawInt ((i : Int) + 1)) >>= _) _ _ s
 refine wpAny_bind (wpAny_setField hit rfl (by simp) ?_)
 have g2 : (s.heap.update it (Obj.mapFields (·.setIfInBounds 1 (rawInt ((i : Int) + 1))))).get? it = some (kitO d (i + 1) es.size ep) := by
  rw [Heap.get?_update_self _ hit (Obj.isFreed_of_fields (Obj.data_mapFields rfl _))]
  rfl
 refine wpAny_bind (wpAny_holding (wpAny_bind (wpAny_isOneOf_keyiter (s := { s with heap := s.heap.update it (Obj.mapFields (·.setIfInBounds 1 (rawInt ((i : Int) + 1)))) }) (zamj g2) ?_)))
 exact wpAny_pure (wpAny_pure ⟨_, rfl, wpAny_pure (q _ g2 (Heap.SameBut.update ..))⟩)
theorem zaqq {Q : Option Value → Shared → Prop} (hh : A.handled = none) (hit : s.heap.get? it = some (kitO d es.size es.size ep)) (m : DAt s.heap d es ep)
  (q : ∀ h', Heap.ExtBut it s.heap h' → Q none { s with heap := h' }) : wpAny (model prog w) A (pyNext (.ref it)) Q E s := by
 obtain ⟨od, hod, hcd, hdd⟩ := m.ex
 have T := zamj hit
 unfold pyNext
 refine wpAny_bind (wpAny_attempt (wpAny_callSpecial?_slot (name := Str.ofString "__next__") T F.slot_dict_keyiterator_next (wpAny_call_entry F.slot_dict_keyiterator_next T F.entry_dict_keyiterator_next ?_ (F.args_dict_keyiterator_next_1 _))))
 refine wpAny_bind (wpAny_pure (wpAny_bind (wpAny_bind ?_)))
 refine wpAny_bind (wpAny_typeNameOfWhole_keyiter T (wpAny_pure (wpAny_bind (wpAny_fieldsOf hit rfl ?_))))
 simp only [show Builtin.Dict_items.ownsTuple "dict_keyiterator" = false from by decide, Bool.false_eq_true, if_false]
 show wpAny _ _ (if (Value.ref d == Value.none) = true then _ else _) _ _ s
 rw [if_neg (by intro z; cases z)]
 refine wpAny_bind (wpAny_pure (wpAny_bind (wpAny_dictEntries hod hdd ?_)))
 rw [if_neg (by simp)]
 refine wpAny_bind (wpAny_pure (wpAny_bind (wpAny_dictEpoch hod hdd ?_)))
 rw [if_neg (by simp)]
 refine wpAny_pure ?_
 simp only [show ¬ ((es.size : Int) < 0) from by omega, if_false, Int.toNat_natCast, Array.getElem?_eq_none (Nat.le_refl es.size)]
 refine wpAny_bind (wpAny_bind (wpAny_typeNameOfWhole_keyiter T (wpAny_pure ?_)))
 show wpAny _ _ (setField (.ref it) 0 .none >>= _) _ _ s
 refine wpAny_bind (wpAny_setField hit rfl (by simp) ?_)
 show wpAny _ _ (newExc (.type "StopIteration") [] >>= _) _ _ _
 simp only [newExc, newTuple]
 refine wpAny_bind (wpAny_bind (wpAny_newObj_type ?_ (by size_fits)))
 refine wpAny_bind (m := firstArgMember _ _) (wpAny_of_eq (a := Value.none) (by first | rfl | (simp only [firstArgMember]; rfl)) (wpAny_newObj_type ?_ (by size_fits)))
 simp only [raiseNew]
 refine wpAny_bind (wpAny_handled ?_)
 rw [show A.in1.handled = none from hh]
 refine wpAny_bind (wpAny_pure (wpAny_throw ?_))
 refine wpAny_bind (wpAny_isInstance (T := "StopIteration") (b := true) ⟨_, Heap.get?_push_size _ rfl, rfl⟩ isSubtype_stop ?_)
 exact wpAny_pure (q _ (((Heap.SameBut.update ..).extBut.push _).push _))
end
section
variable {prog : Program} {w : World} {A : Around} {R : Result → Shared → Prop} {d it S : Addr} {es : Array DictEntry} {ep : Nat}
theorem zapy (hh : A.handled = none) (n1 : S ≠ it) (n2 : S ≠ d) (n3 : it ≠ d) (hsz : es.size ≤ sizeLine) (res : Value) (g : Heap) : ∀ (k i : Nat) (s : Shared) (c : Nat), es.size - i = k → i ≤ es.size →
  s.heap.get? it = some (kitO d i es.size ep) → DAt s.heap d es ep → s.heap.get? S = some { cls := .type "list", data := .seq ((es.toList.take i).map (·.key)).toArray c } →
  (∀ b o, b ≠ it → b ≠ S → g.get? b = some o → s.heap.get? b = some o) →
  (∀ (h' : Heap) (c' : Nat), h'.get? S = some { cls := .type "list", data := .seq (es.toList.map (·.key)).toArray c' } → (∀ b o, b ≠ it → b ≠ S → g.get? b = some o → h'.get? b = some o) → R (.ok (.ret res)) { s with heap := h' }) →
  codeAny (model prog w) A (.builtin "list.extend.loop" ⟨[.ref S, .ref it, res], []⟩) R s := by
 intro k
 induction k with
 | zero =>
  intro i s c hk hi hit m hS hg hR
  have e : i = es.size := by omega
  subst e
  refine codeAny_builtin F.entry_extend_loop ?_
  rw [Around.under_plainId F.plain_extend_loop _]
  show wpAny _ A.in1 (pyNext (.ref it) >>= _) _ _ s
  refine wpAny_bind (zaqq (by exact hh) hit m fun h' x => wpAny_pure (hR h' c ?_ fun b o b1 b2 e => x b o b1 (hg b o b1 b2 e)))
  rw [x S _ n1 hS, List.take_of_length_le (by simp)]
 | succ k ih =>
  intro i s c hk hi hit m hS hg hR
  have hlt : i < es.size := by omega
  refine codeAny_builtin F.entry_extend_loop ?_
  rw [Around.under_plainId F.plain_extend_loop _]
  show wpAny _ A.in1 (pyNext (.ref it) >>= _) _ _ s
  refine wpAny_bind (zamk hit m hlt fun h' a b => ?_)
  have hS' : h'.get? S = some { cls := .type "list", data := .seq ((es.toList.take i).map (·.key)).toArray c } := (b.2 S n1).trans hS
  refine wpAny_bind (wpAny_updateSeq hS' rfl (wpAny_pure ⟨plainId_quiet F.plain_extend_loop _, ?_⟩) (by simp; omega) (by simp; omega))
  have oth : ∀ b o, b ≠ S → h'.get? b = some o → (h'.update S (Obj.mapSeq (·.push es[i].key))).get? b = some o := fun b o hb e => (Heap.get?_update_other _ _ (Ne.symm hb)).trans e
  have hS2 := Heap.get?_update_self (Obj.mapSeq (·.push es[i].key)) hS' rfl
  have ea : ((es.toList.take (i + 1)).map (·.key)).toArray = ((es.toList.take i).map (·.key)).toArray.push es[i].key := by
   rw [List.take_add_one, show es.toList[i]? = some es[i] from by simp [hlt]]
   simp
  refine ih (i + 1) _ _ (by omega) hlt (oth _ _ (Ne.symm n1) a) (m.at fun o e => oth _ o (Ne.symm n2) ((b.2 d (Ne.symm n3)).trans e)) (by rw [ea]; exact hS2) (fun x o x1 x2 e => oth x o x2 ((b.2 x x1).trans (hg x o x1 x2 e))) hR
end
end L2

namespace L2
open PySem PySem.W PyProof.Rows
section
variable {prog : Program} {w : World} {A : Around} {E : Value → Shared → Prop} {s : Shared} {d : Addr} {es : Array DictEntry} {ep : Nat}
theorem zapz {Q : List Value → Shared → Prop} (hh : A.handled = none) (hd : (d == sysModules) = false) (m : DAt s.heap d es ep) (hsz : es.size ≤ sizeLine)
  (q : ∀ h', (∀ b o, s.heap.get? b = some o → h'.get? b = some o) → s.heap.objs.size < h'.objs.size → Q (es.toList.map (·.key)) { s with heap := h' }) : wpAny (model prog w) A (collect (.ref d)) Q E s := by
 have dlt : d < s.heap.objs.size := let ⟨o, e, _⟩ := m.ex; Heap.lt_size e
 have nSd : s.heap.objs.size ≠ d := Nat.ne_of_gt dlt
 have nSI : s.heap.objs.size ≠ s.heap.objs.size + 1 := Nat.ne_of_lt (Nat.lt_succ_self _)
 have nId : s.heap.objs.size + 1 ≠ d := Nat.ne_of_gt (Nat.lt_succ_of_lt dlt)
 unfold collect
 refine wpAny_bind (wpAny_runValue (codeAny_builtin entry_proto_collect' ?_))
 show wpAny _ _ (do again (.builtin "list.__iadd__" ⟨[← newList [], .ref d], []⟩)) _ _ s
 refine wpAny_bind (wpAny_newList (wpAny_pure ⟨Code.quiet_builtin _ (by decide +kernel), codeAny_builtin entry_list_iadd' ?_⟩))
 show wpAny _ _ (Builtin.List.listExtendWith (.ref s.heap.objs.size) (.ref d) (.ref s.heap.objs.size)) _ _ { s with heap := s.heap.push (seqObj "list" #[] 0) }
 unfold Builtin.List.listExtendWith
 have k1 : ∀ b o, s.heap.get? b = some o → (s.heap.push (seqObj "list" #[] 0)).get? b = some o := fun b o e => Heap.get?_push_of_some _ e
 have S1 : (s.heap.push (seqObj "list" #[] 0)).get? s.heap.objs.size = some (seqObj "list" #[] 0) := Heap.get?_push_size _ rfl
 have z1 : (s.heap.push (seqObj "list" #[] 0)).objs.size = s.heap.objs.size + 1 := size_push' _ _
 generalize hg1 : s.heap.push (seqObj "list" #[] 0) = g1 at k1 S1 z1 ⊢
 have m1 : DAt g1 d es ep := m.at fun o e => k1 d o e
 refine wpAny_bind (wpAny_typeOf (T := "dict") (DAt.ty (s := { s with heap := g1 }) m1) ?_)
 have e1 : Builtin.List.listSameRef (.ref s.heap.objs.size) (.ref d) = false := by simp [Builtin.List.listSameRef, nSd]
 have e2 : (Value.type "dict" == Value.type "list") = false := by decide
 have e3 : (Value.type "dict" == Value.type "tuple") = false := by decide
 simp only [e1, e2, e3, Bool.or_false, Bool.false_eq_true, if_false]
 refine wpAny_bind (zami (s := { s with heap := g1 }) hd m1 ?_)
 have k2 : ∀ b o, g1.get? b = some o → (g1.push (kitO d 0 es.size ep)).get? b = some o := fun b o e => Heap.get?_push_of_some _ e
 have I2 : (g1.push (kitO d 0 es.size ep)).get? g1.objs.size = some (kitO d 0 es.size ep) := Heap.get?_push_size _ rfl
 show wpAny _ _ (holding [Value.ref g1.objs.size] _ >>= _) _ _ { s with heap := g1.push (kitO d 0 es.size ep) }
 rw [z1] at I2 ⊢
 generalize g1.push (kitO d 0 es.size ep) = g2 at k2 I2 ⊢
 have m2 : DAt g2 d es ep := m1.at fun o e => k2 d o e
 refine wpAny_bind (wpAny_holding (kdl_hint_dict (DAt.ty (s := { s with heap := g2 }) m2) ?_))
 show wpAny _ _ (rule "list.extend.makes-room" >>= fun _ => Builtin.List.listTouch (.ref s.heap.objs.size) >>= fun _ => again (.builtin "list.extend.loop" ⟨[.ref s.heap.objs.size, .ref (s.heap.objs.size + 1), .ref s.heap.objs.size], []⟩)) _ _ _
 refine wpAny_bind (wpAny_rule (wpAny_bind ?_))
 have S2 := k2 _ _ S1
 refine wpAny_bind (listUpdate_at S2 rfl ?_ (Nat.zero_le _) (by simp [sizeLine_eq]))
 obtain ⟨c3, S3⟩ : ∃ c3, (g2.update s.heap.objs.size (Obj.mapSeq (·.push Value.none))).get? s.heap.objs.size = some (seqObj "list" #[Value.none] c3) := ⟨_, get?_update_seq S2 (·.push Value.none)⟩
 refine listUpdate_at S3 rfl ?_ (by simp [sizeLine_eq]) (by simp [sizeLine_eq])
 obtain ⟨c4, S4⟩ : ∃ c4, ((g2.update s.heap.objs.size (Obj.mapSeq (·.push Value.none))).update s.heap.objs.size (Obj.mapSeq (·.pop))).get? s.heap.objs.size = some (seqObj "list" #[] c4) := ⟨_, get?_update_seq S3 (·.pop)⟩
 have k4 : ∀ b o, b ≠ s.heap.objs.size → g2.get? b = some o → ((g2.update s.heap.objs.size (Obj.mapSeq (·.push Value.none))).update s.heap.objs.size (Obj.mapSeq (·.pop))).get? b = some o :=
  fun b o nb e => (Heap.get?_update_other _ _ (Ne.symm nb)).trans ((Heap.get?_update_other _ _ (Ne.symm nb)).trans e)
 generalize (g2.update s.heap.objs.size (Obj.mapSeq (·.push Value.none))).update s.heap.objs.size (Obj.mapSeq (·.pop)) = g4 at S4 k4 ⊢
 refine wpAny_pure ⟨plainId_quiet F.plain_extend_loop _, ?_⟩
 refine zapy (S := s.heap.objs.size) (it := s.heap.objs.size + 1) (d := d) (es := es) (ep := ep) (by exact hh) nSI nSd nId hsz _ s.heap es.size 0 _ c4 rfl (Nat.zero_le _) (k4 _ _ (Ne.symm nSI) I2) (m2.at fun o e => k4 d o (Ne.symm nSd) e) S4
  (fun b o b1 b2 e => k4 b o b2 (k2 b o (k1 b o e))) fun h' c' hS hk => ?_
 refine wpAny_bind (wpAny_load hS ?_)
 exact wpAny_pure (q h' (fun b o e => hk b o (Nat.ne_of_lt (Nat.lt_succ_of_lt (Heap.lt_size e))) (Nat.ne_of_lt (Heap.lt_size e)) e) (Heap.lt_size hS))
end
end L2

namespace L2
open PySem PySem.W PyProof.Rows
def TKey (h : Heap) (k : List Key) (v : Value) : Prop := ∃ (p : Addr) (us : List Value), v = .ref p ∧ h.IsTuple p us.toArray ∧ Vals (k.map kV) us
abbrev TKs (h : Heap) : List (List Key) → List Value → Prop := Paired (TKey h)
theorem zaba {Φ : List Key → Value → Prop} : ∀ {ks : List (List Key)} {vs : List Value} {i : Nat} {k : List Key}, Paired Φ ks vs → ks[i]? = some k → ∃ v, vs[i]? = some v ∧ Φ k v
 | _, _, _, _, .nil, e => by simp at e
 | _, _, 0, _, .cons r _, e => by simp at e; subst e; exact ⟨_, rfl, r⟩
 | _, _, i + 1, _, .cons _ t, e => by
  obtain ⟨v, a, b⟩ := zaba t (i := i) (by simpa using e)
  exact ⟨v, by simpa using a, b⟩
section
variable {prog : Program} {w : World} {A : Around} {E : Value → Shared → Prop} {s : Shared} {a : Addr} {vs : List Value} {ks : List (List Key)} {g : Heap}
end
end L2

namespace L2
open PySem PySem.W PyProof.Rows PySem.Calls
section
variable {prog : Program} {w : World} {A : Around} {E : Value → Shared → Prop} {s : Shared} {a : Addr} {vs : List Value}
end
section
variable {X : Cx}
def rSrtT : List V → Hp → VK → Prop := fun xs H Q => ∃ (a : Addr) (kvs : List (List Key × V)) (b0 : Bool) (t0 : List Bool), xs = [.ref a] ∧ H a = some (.dT kvs) ∧ kvs.length < 64 ∧ (∀ p ∈ kvs, p.1.map Sum.isLeft = b0 :: t0) ∧
 ∀ (D : Addr) (ks : List (List Key)) (ps : List Addr), H D = none → ks.Perm (kvs.map (·.1)) → ks.Pairwise kLex → Paired (fun k p => H p = some (.tup (k.map kV))) ks ps → Q (.ref D) (upd H D (.lst (ps.map V.ref)))
end
end L2

namespace L2
open PySem PySem.W PyProof.Rows
section
variable {prog : Program} {w : World} {K : Type} [DecidableEq K] {knd : HeapKind prog w K} {A : Around} {E : Value → Shared → Prop} {s : Shared}
end
section
variable {X : Cx} {pins : List (Addr × Obj)} {σ : St} {H : Hp} {s : Shared} {A : Around} {E : Value → Shared → Prop}
end
def tDSetD (td ty tx : TE) : TE := fun σ H Q => td σ H fun x H1 => ∃ a, x = .ref a ∧ IsD H1 a ∧ ty σ H1 fun y H2 => tx σ H2 fun z H3 => ∃ b kvs k, H3 a = some (.dT kvs) ∧ y = .ref b ∧ H3 b = some (.tup (k.map kV)) ∧ kvs.length < sizeLine ∧
 (∀ v, valV kvs k = some v → Q v H3) ∧ (valV kvs k = none → Q z (upd H3 a (.dT (putK kvs k z))))
section
variable {X : Cx} {o e f : Expr} {apos cpos : Pos} {td ty tx : TE}
theorem zaku {i : Expr} {pos : Pos} (hu : X.A.units + 1 < cLine) (hi : Pr (PE X i ty)) (ho : Pr (PE X o td)) (h1 : behindInMarks .NotIn o = false := by rfl) : Pr (PT X (.Compare i [.NotIn] [o] pos) (tB (tDNotIn ty td))) := ⟨zatf (zalx hu hi.h ho.h) h1⟩
theorem zabi {i : Expr} {pos : Pos} (hu : X.A.units + 1 < cLine) (ho : Pr (PE X o td)) (hi : Pr (PE X i ty)) (hs : NoSl i) : Pr (PE X (.Subscript o i pos) (tDGet td ty)) := ⟨zarp hu ho.h hi.h hs⟩
theorem zadw {i value : Expr} {tv : TE} {pos pos' : Pos} (hu : X.A.units + 1 < cLine) (ho : Pr (PE X o td)) (hi : Pr (PE X i ty)) (hv : Pr (PE X value tv)) (hs : swapsWith value (some (.Subscript o i pos')) pos.line X.env = pure false) :
  Pr (PS X (.Assign [.Subscript o i pos'] value pos) (sDPut td ty tv)) := ⟨zarq hu ho.h hi.h hv.h hs⟩
theorem zaml (ho : Pr (PE X o td)) (hbase : attributeBase o "pop" X.env (eval o X.env) = eval o X.env := by rfl) (hline : (apos.endLine == cpos.line) = true := by rfl) : Pr (PE X (.Call (.Attribute o "pop" apos) [] [] cpos) (tBM0 X.K "list" rPop td)) :=
 ⟨zaqn PySem.F.plainAttrs_list PySem.F.slot_list_pop PySem.F.type_list_pop zat4 ho.h hbase hline⟩
end
end L2

namespace L2
open PySem PySem.W PyProof.Rows
def sqO (k : SK) (xs : List V) : HO := match k with
 | .list => .lst xs
 | .tuple => .tup xs
def ItK (K : PySem.W.Frag) (k : SK) (a : Addr) : It := match k with
 | .list => Itl K a
 | .tuple => Itt K a
def iSq (K : PySem.W.Frag) (k : SK) (tl : TE) : TI := fun σ H R => tl σ H fun x H1 => ∃ a, x = .ref a ∧ (∃ xs, Sq k K H1 a xs) ∧ R (ItK K k a) H1
section
variable {X : Cx} {tg l : Expr}
theorem zaej (K : PySem.W.Frag) (hK : X.K = K) (k : SK) {tl : TE} (hl : Pr (PE X l tl)) : Pr (PI X tg l (iSq K k tl)) := by
 cases k with
 | list => exact zamd K hK hl
 | tuple => exact zaps K hK hl
end
theorem zaek {K : PySem.W.Frag} {k : SK} {a : Addr} (xs : List V) {g : TG} {tt : TT} {te : TE} {Q : List V → Hp → Prop} {σ : St} {H : Hp} (Pv : Nat → List V → St → Hp → Prop) (hn : xs.length < sizeLine) (h0 : Pv 0 [] σ H) (hl : ∀ i ys σ H, i ≤ xs.length → Pv i ys σ H → ys.length ≤ i ∧ Sq k K H a xs)
  (turn : ∀ i ys σ H x, xs[i]? = some x → Pv i ys σ H → g x σ H fun σ2 H2 => tt σ2 H2 fun b H3 => if b = true then te σ2 H3 fun y H4 => Pv (i + 1) (ys ++ [y]) σ2 H4 else Pv (i + 1) ys σ2 H3)
  (after : ∀ ys σ H, Pv xs.length ys σ H → Q ys H) : Comp (ItK K k a) g tt te Q σ H := by
 cases k with
 | list => exact zab4 xs Pv hn h0 hl turn after
 | tuple => exact zagm xs Pv hn h0 hl turn after
theorem zaj3 {c : TT} {tb : TS} {D : Ends} {σ : St} {H : Hp} (W : Nat → St → Hp → Prop) (h0 : ∃ m, W m σ H)
  (hs : ∀ m σ H, W m σ H → c σ H fun b H1 => if b = true then tb { D with nx := fun σ' H' => ∃ m', m' < m ∧ W m' σ' H', ct := fun σ' H' => ∃ m', m' < m ∧ W m' σ' H', bk := D.nx } σ H1 else D.nx σ H1)
  (mono : ∀ σ H Q Q', (∀ b H1, Q b H1 → Q' b H1) → c σ H Q → c σ H Q') : tWhile c tb D σ H := by
 refine ⟨W, h0, fun m σ H p => mono σ H _ _ (fun b H1 q => ?_) (hs m σ H p)⟩
 cases b with
 | true => exact ⟨_, fun σ' H' z => z, q⟩
 | false => exact q
theorem zaf5 {X : Cx} (K : PySem.W.Frag) (hK : X.K = K) : CallR X (.type "tuple") (fun xs H Q => ∃ p ys, xs = [V.ref p] ∧ ((SqL K H p ys ∧ ∀ (l : Addr), H l = none → Q (V.ref l) (upd H l (HO.tup ys))) ∨ SqT K H p ys ∧ Q (V.ref p) H)) := by subst hK; exact zac3
end L2

namespace L2
open PySem PySem.Spec PyProof.Rows PySem.SeqAt
section
variable {prog : Program} {w : World} {A : Around} {E : Value → Shared → Prop} {s : Shared} {I : Addr} {fp wr : List Addr} {G : Array GenState → Array GenState → Prop} {n : Nat} {P : Nat → Value → Prop} {St : Nat → Shared → Prop}
end
section
variable {X : Cx}
def tTR (K : PySem.W.Frag) (ta : TA) : TE := fun σ H Q => ta σ H fun vs H1 => ∃ a xs, vs = [.ref a] ∧ SqL K H1 a xs ∧ ∀ D, H1 D = none → Q (.ref D) (upd H1 D (.tup xs.reverse))
def SameL (H : Hp) (u v : Addr) : Prop := u ≠ v ∧ ∃ ps : List Addr, H u = some (.lst (ps.map V.ref)) ∧ H v = some (.lst (ps.map V.ref))
def rNeW : R2 := fun x y H Q => ∃ (a b : Addr) (us vs : List Addr), x = .ref a ∧ y = .ref b ∧ H a = some (.tup (us.map V.ref)) ∧ H b = some (.tup (vs.map V.ref)) ∧ Paired (SameL H) us vs ∧ Q (.bl false) H
end
end L2

namespace L2
open PySem PySem.Spec PyProof.Rows PySem.SeqAt
section
variable {X : Cx}
def Pl (x : V) : Prop := (∃ i, x = .int i) ∨ ∃ p, x = .ref p
def EqD (H : Hp) (x y : V) : Prop := (x = y ∧ Pl x) ∨ ∃ u v zs, x = .ref u ∧ y = .ref v ∧ H u = some (.tup zs) ∧ H v = some (.tup zs) ∧ ∀ z ∈ zs, Pl z
def rNeD : R2 := fun x y H Q => ∃ (a b : Addr) (xs ys : List V), x = .ref a ∧ y = .ref b ∧ H a = some (.tup xs) ∧ H b = some (.tup ys) ∧ Paired (EqD H) xs ys ∧ Q (.bl false) H
theorem zar8 {i o : Expr} {ty td : TE} {pos : Pos} (hu : X.A.units + 1 < cLine) (hi : Pr (PE X i ty)) (ho : Pr (PE X o td)) (h1 : behindInMarks .In o = false := by rfl) : Pr (PE X (.Compare i [.In] [o] pos) (tDIn ty td)) := ⟨zate (zat8 hu hi.h ho.h) h1⟩
end
theorem zael {H : Hp} {a : Addr} {kvs : List (Key × V)} {x : Str} {v : V} (e : H a = some (.dK kvs)) (h : valV kvs (.inr x) = some v) : DGet H a (.str x) (some v) := h ▸ DGet.k (k := .inr x) e
theorem zabv {H : Hp} {a : Addr} {kvs : List (Key × V)} {i : Int} {v : V} (e : H a = some (.dK kvs)) (h : valV kvs (.inl i) = some v) : DGet H a (.int i) (some v) := h ▸ DGet.k (k := .inl i) e
theorem zakv {H : Hp} {a : Addr} {kvs : List (Key × V)} {i : Int} (e : H a = some (.dK kvs)) (h : valV kvs (.inl i) = none) : DGet H a (.int i) none := h ▸ DGet.k (k := .inl i) e
theorem dputI {H : Hp} {a : Addr} {kvs : List (Key × V)} {i : Int} {v : V} (e : H a = some (.dK kvs)) (hl : kvs.length < sizeLine) : DPut H a (.int i) v (upd H a (.dK (putK kvs (.inl i) v))) := DPut.k (k := .inl i) e hl
end L2

namespace L2
open PySem
structure AF (sc : Scope) (N : List Str) : Prop where
 h : ∀ x ∈ N, (sc.names.lookup x = some .local ∨ sc.names.lookup x = some .cell) ∧ (x == ("__debug__" : Str)) = false ∧ (x == ("__classdict__" : Str)) = false
structure AV (sc : Scope) (N : List Str) : Prop where
 h : ∀ x ∈ N, (sc.names.lookup x = some .local ∨ sc.names.lookup x = some .cell ∨ sc.names.lookup x = some .free) ∧ (x == ("__debug__" : Str)) = false ∧ (x == ("__classdict__" : Str)) = false
structure AK (sc : Scope) (N : List Str) : Prop where
 h : ∀ x ∈ N, sc.names.lookup x = some .local
structure AG (sc : Scope) (N : List Str) : Prop where
 h : ∀ x ∈ N, sc.names.lookup x = some .globalImplicit
theorem AF.l {sc : Scope} {N : List Str} (A : AF sc N) (i : Nat) {x : Str} (e : N[i]? = some x) : sc.names.lookup x = some .local ∨ sc.names.lookup x = some .cell := (A.h x (List.mem_of_getElem? e)).1
theorem AK.k {sc : Scope} {N : List Str} (A : AK sc N) (i : Nat) {x : Str} (e : N[i]? = some x) : sc.names.lookup x = some .local := A.h x (List.mem_of_getElem? e)
theorem AG.g {sc : Scope} {N : List Str} (A : AG sc N) (i : Nat) {x : Str} (e : N[i]? = some x) : sc.names.lookup x = some .globalImplicit := A.h x (List.mem_of_getElem? e)
theorem qv {X : Cx} {x : Str} {pos : Pos} (A : AF X.env.scope X.N) (i : Nat) (e : X.N[i]? = some x) : Pr (PE X (.Name x pos) (tVar i)) :=
 have a := A.h x (List.mem_of_getElem? e)
 zal0 e (a.1.elim .inl fun h => .inr (.inl h)) a.2.1 a.2.2
theorem qw {X : Cx} {x : Str} {pos : Pos} (A : AV X.env.scope X.N) (i : Nat) (e : X.N[i]? = some x) : Pr (PE X (.Name x pos) (tVar i)) :=
 have a := A.h x (List.mem_of_getElem? e)
 zal0 e a.1 a.2.1 a.2.2
end L2

namespace L2
open PySem PySem.Spec PyProof.Rows
def aIxQ (K : PySem.W.Frag) : R2 := fun x y H Q => ∃ p xs i, x = .ref p ∧ y = .int i ∧ (SqL K H p xs ∨ SqT K H p xs) ∧ Atx xs i fun v => Q v H
theorem zamm {X : Cx} (K : PySem.W.Frag) (hK : X.K = K) : IxR X (aIxQ K) := by
 subst hK
 intro value slice pins s σ H x y u w Q I rx ry h
 obtain ⟨p, xs, i, e1, e2, hs, a⟩ := h
 rcases hs with hs | hs
 ·exact zaa4 value slice pins s σ H x y u w Q I rx ry ⟨p, xs, i, e1, e2, hs, a⟩
 ·exact zaa2 value slice pins s σ H x y u w Q I rx ry ⟨p, xs, i, e1, e2, hs, a⟩
def rInsert : V → List V → Hp → VK → Prop := fun x vs H Q => ∃ (l : Addr) (xs : List V) (i : Int) (y : V), x = .ref l ∧ vs = [.int i, y] ∧ H l = some (.lst xs) ∧ 0 ≤ i ∧ i ≤ xs.length ∧ xs.length < 1000 ∧ Q .non (upd H l (.lst (xs.take i.toNat ++ y :: xs.drop i.toNat)))
def rIndex : V → List V → Hp → VK → Prop := fun x vs H Q => ∃ (l : Addr) (ns : List Nat) (k : Int) (j : Nat), x = .ref l ∧ vs = [.int k] ∧ H l = some (.lst (ns.map fun n : Nat => V.int (n : Int))) ∧ 0 ≤ k ∧ ns.idxOf? k.toNat = some j ∧ ns.length < 1000 ∧ Q (.int (j : Int)) H
end L2

namespace L2
open PySem PySem.Spec PyProof.Rows
section
variable {X : Cx} {pins : List (Addr × Obj)} {σ : St} {H : Hp} {s : Shared} {d : Addr}
theorem Inv.swap (I : Inv X pins σ H s) {o o' : HO} (e : H d = some o) (nt : ∀ xs, o ≠ .tup xs) (no : ∀ x, o ≠ .own x) (nb : ∀ ps, o ≠ .tbl ps) (nf : (∀ b u, o ≠ .frz b u) ∨ ∀ b u, X.H₀ d ≠ some (.frz b u)) (new : ObjOk X.prog X.w (upd H d o') s.heap d o') : Inv X pins σ (upd H d o') s := by
 have ne : ∀ b, H b = none → b ≠ d := fun b h z => by rw [z, e] at h; cases h
 refine ⟨I.ok, I.os, I.bare, ⟨I.base.keep, I.base.slot, fun b u q n hx => ?_, I.base.there, fun b xs q => ?_, fun b u v q => ?_, fun b ps q => ?_⟩, I.loc, I.cell, ?_, fun x c q => ?_, fun p hp => ?_, fun b u q => ?_, I.len⟩
 ·have z := I.base.free b u q n hx
  rw [zaaw (ne b z)]; exact z
 ·have z := I.base.tups b xs q
  have nd : b ≠ d := fun w => by rw [w, e] at z; exact nt xs (Option.some.inj z)
  rw [zaaw nd]; exact z
 ·have z := I.base.frzs b u v q
  have nd : b ≠ d := fun w => by
   rcases nf with nf | nf
   ·rw [w, e] at z; exact nf u v (Option.some.inj z)
   ·rw [w] at q; exact nf u v q
  rw [zaaw nd]; exact z
 ·obtain ⟨more, z⟩ := I.base.tbls b ps q
  have nd : b ≠ d := fun w => by rw [w, e] at z; exact nb _ (Option.some.inj z)
  exact ⟨more, by rw [zaaw nd]; exact z⟩
 ·rw [zaaw (ne _ I.free)]; exact I.free
 ·rw [zaaw (ne _ (I.freeC x c q))]; exact I.freeC x c q
 ·obtain ⟨q1, q2, q3⟩ := I.pin p hp
  exact ⟨q1, by rw [zaaw (ne _ q2)]; exact q2, q3⟩
 ·by_cases hb : b = d
  ·subst hb; rw [zaag] at q; cases q; exact new
  ·rw [zaaw hb] at q
   exact (I.hok b u q).stay (fun _ _ _ z => z) (fun c z => by rw [zaaw (fun w => by rw [w, e] at z; exact no _ (Option.some.inj z))]; exact z) fun c xs z => by rw [zaaw (fun w => by rw [w, e] at z; exact nt xs (Option.some.inj z))]; exact z
theorem Inv.freeze (I : Inv X pins σ H s) {kvs : List (Key × V)} {ob : Obj} (e : H d = some (.dK kvs)) (ho : s.heap.get? d = some ob) : Inv X pins σ (upd H d (.frz ob (.dK kvs))) s :=
 I.swap e (fun _ z => by cases z) (fun _ z => by cases z) (fun _ z => by cases z) (.inl fun _ _ z => by cases z) ⟨ho, (I.hok d _ e : ObjOk X.prog X.w H s.heap d (.dK kvs))⟩
theorem Inv.thaw (I : Inv X pins σ H s) {kvs : List (Key × V)} {ob : Obj} (e : H d = some (.frz ob (.dK kvs))) (nf : ∀ b u, X.H₀ d ≠ some (.frz b u)) : Inv X pins σ (upd H d (.dK kvs)) s :=
 I.swap e (fun _ z => by cases z) (fun _ z => by cases z) (fun _ z => by cases z) (.inr nf) ((I.hok d _ e : ObjOk X.prog X.w H s.heap d (.frz ob (.dK kvs))).2 : ObjOk X.prog X.w H s.heap d (.dK kvs))
end
def Itd (d : Addr) (ob : Obj) (kvs : List (Key × V)) : It := ⟨fun i H => H d = some (.frz ob (.dK kvs)) ∧ i < kvs.length, fun i H x H' => H' = H ∧ ∃ kv : Key × V, kvs[i]? = some kv ∧ x = kV kv.1, fun i H => H d = some (.frz ob (.dK kvs)) ∧ kvs.length ≤ i⟩
theorem zamn {k : Key} {v : Value} (h : keyIs k v = true) : RelV (kV k) v := by
 rcases zabh h with ⟨i, t, rfl, rfl⟩ | ⟨x, t, rfl, rfl⟩
 ·exact ⟨t, rfl⟩
 ·exact ⟨t, rfl⟩
theorem zamo {P : Program} {w : World} : ∀ {kvs : List (Key × V)} {vs : List (Key × Value)} {es : List DictEntry}, KV kvs vs → Pairs (mixKind P w) es vs → es.length = kvs.length ∧ ∀ (i : Nat) (kv : Key × V), kvs[i]? = some kv → ∃ e : DictEntry, es[i]? = some e ∧ RelV (kV kv.1) e.key
 | _, _, _, .nil, .nil => ⟨rfl, fun i kv h => by simp at h⟩
 | _, _, _, .cons a t, .cons b _ r => by
  obtain ⟨l, g⟩ := zamo t r
  refine ⟨by simp [l], fun i kv h => ?_⟩
  cases i with
  | zero =>
   cases h
   exact ⟨_, rfl, zamn (by rw [a.1]; exact b)⟩
  | succ i => exact g i kv (by simpa using h)
theorem Inv.frzd {X : Cx} {pins : List (Addr × Obj)} {σ : St} {H : Hp} {s : Shared} {d : Addr} {kvs : List (Key × V)} {ob : Obj} {es : Array DictEntry} {ep : Nat} (I : Inv X pins σ H s) (e : H d = some (.frz ob (.dK kvs))) (hd : ob.data = .dict es ep) : DAt s.heap d es ep ∧ es.size = kvs.length ∧ ∀ (i : Nat) (kv : Key × V), kvs[i]? = some kv → ∃ en : DictEntry, es[i]? = some en ∧ RelV (kV kv.1) en.key := by
 obtain ⟨g1, _, _, vs, kv, o, es', ep', g2, g3, g4, _, g5, _⟩ := (I.hok d _ e : ObjOk X.prog X.w H s.heap d (.frz ob (.dK kvs)))
 rw [g1] at g2
 cases g2
 rw [hd] at g4
 cases g4
 obtain ⟨l, g⟩ := zamo kv g5
 exact ⟨⟨_, g1, g3, hd⟩, by rw [← l]; simp, fun i kv h => by obtain ⟨en, e1, e2⟩ := g i kv h; exact ⟨en, by simpa using e1, e2⟩⟩
theorem zamp {P : Program} {w : World} {K : PySem.W.Frag} {tg : Expr} (d it : Addr) {ob : Obj} {kvs : List (Key × V)} {es : Array DictEntry} {ep : Nat} (hd : ob.data = .dict es ep) : Turn P w K tg (Itd d ob kvs) [it] it (fun i h => h.get? it = some (kitO d i es.size ep) ∧ i ≤ es.size) where
 mem := by simp
 obj := fun i h st b hb => by
  have e : b = it := by simpa using hb
  subst e
  exact ⟨_, st.1, fun v z => by cases z⟩
 keep := fun i h h' st k => ⟨k it (by simp) _ st.1, st.2⟩
 item := by
  intro X hP hw hK hc i pins s σ H E I hf st hg
  subst hP hw hK
  obtain ⟨hq, hi⟩ := hg
  obtain ⟨m, l, g⟩ := I.frzd hq hd
  obtain ⟨f0, f1, f2, f3, f4, f5⟩ := hf it (by simp)
  obtain ⟨en, e1, r⟩ := g i kvs[i] (List.getElem?_eq_getElem hi)
  have hi2 : i < es.size := by omega
  have e2 : en = es[i] := by rw [Array.getElem?_eq_getElem hi2] at e1; exact (Option.some.inj e1).symm
  subst e2
  refine zamk st.1 m hi2 fun h' st' sb => ?_
  have I1 : Inv X pins σ H { s with heap := h' } := I.turned (t' := s.toks) (fun b o hb e => (sb.2 b hb).trans e) f0 f1 f3 f4 f5
  exact ⟨_, rfl, zao2 (s := { s with heap := h' }) st' rfl rfl (by decide) ⟨kV kvs[i].1, H, I1, r, ⟨rfl, _, List.getElem?_eq_getElem hi, rfl⟩, ⟨st', by omega⟩, fun b hb => (hf b hb).1⟩⟩
 done := by
  intro X hP hw hK hc i pins s σ H E I hf st hg
  subst hP hw hK
  obtain ⟨hq, hi⟩ := hg
  obtain ⟨m, l, g⟩ := I.frzd hq hd
  obtain ⟨f0, f1, f2, f3, f4, f5⟩ := hf it (by simp)
  have e : i = es.size := by have := st.2; omega
  subst e
  exact zaqq (I.ok.hd hc) st.1 m fun h' eb => ⟨rfl, I.turned (t' := s.toks) (fun b o hb e => eb b o hb e) f0 f1 f3 f4 f5⟩
 self := fun _ _ _ _ _ st h => wpAny_pyIter_keyiter ⟨_, st.1, rfl, rfl⟩ h
def iDict (tl : TE) : TI := fun σ H R => tl σ H fun x H1 => ∃ d kvs, x = .ref d ∧ H1 d = some (.dK kvs) ∧ ∀ ob, R (Itd d ob kvs) (upd H1 d (.frz ob (.dK kvs)))
theorem zags {X : Cx} {tg : Expr} {l : Expr} {tl : TE} (hl : Pr (PE X l tl)) : Pr (PI X tg l (iDict tl)) := by
 refine ⟨?_⟩
 intro pins s σ H R I h
 refine thn (hl.h pins s σ H _ I h) fun v s1 ⟨x, H1, I1, r1, q1⟩ => ?_
 obtain ⟨d, kvs, e, hq, q⟩ := q1
 subst e
 cases r1
 obtain ⟨_, nS, vs, kv, o, es, ep, g2, g3, g4, _⟩ := (I1.hok d _ hq : ObjOk X.prog X.w H1 s1.heap d (.dK kvs))
 have I2 := I1.freeze hq g2
 refine zami nS ⟨o, g2, g3, g4⟩ ?_
 refine ⟨s1.heap.objs.size, [s1.heap.objs.size], _, _, _, rfl, I2.kept (t' := s1.toks) fun b o e => Heap.get?_push_of_some _ e, zamp d _ g4, ⟨Heap.get?_push_size _ rfl, Nat.zero_le _⟩, fun b hb => ?_, q o⟩
 have e : b = s1.heap.objs.size := by simpa using hb
 subst e
 exact I2.fpOk (Nat.le_refl _) (I2.hok.fresh (Nat.le_refl _))
theorem zah6 {d : Addr} {ob : Obj} {kvs : List (Key × V)} {g : TG} {tb : TS} {D : Ends} {σ : St} {H : Hp} (Pv : Nat → St → Hp → Prop) (h0 : Pv 0 σ H) (hl : ∀ i σ H, i ≤ kvs.length → Pv i σ H → H d = some (.frz ob (.dK kvs)))
  (hs : ∀ i kv σ H, kvs[i]? = some kv → Pv i σ H → g (kV kv.1) σ H fun σ2 H2 => tb { D with nx := Pv (i + 1), ct := Pv (i + 1), bk := D.nx } σ2 H2) (hd : ∀ σ H, Pv kvs.length σ H → D.nx σ H) : Loop (Itd d ob kvs) g tb D σ H := by
 refine ⟨fun i m σ H => i + m = kvs.length ∧ Pv i σ H, ⟨kvs.length, by omega, h0⟩, fun i m σ H ⟨e, p⟩ => ?_⟩
 by_cases hi : i < kvs.length
 ·refine .inr ⟨⟨hl i σ H (by omega) p, hi⟩, Pv (i + 1), fun σ' H' p' => ⟨m - 1, by omega, by omega, p'⟩, fun x H' ⟨e1, kv, e2, e3⟩ => ?_⟩
  subst e1
  subst e3
  exact hs i kv σ H' e2 p
 ·have e' : i = kvs.length := by omega
  subst e'
  exact .inl ⟨⟨hl _ σ H (Nat.le_refl _) p, Nat.le_refl _⟩, hd σ H p⟩
theorem zamq {d : Addr} {ob : Obj} (kvs : List (Key × V)) {g : TG} {tt : TT} {te : TE} {Q : List V → Hp → Prop} {σ : St} {H : Hp} (Pv : Nat → List V → St → Hp → Prop) (hn : kvs.length < sizeLine) (h0 : Pv 0 [] σ H) (hl : ∀ i ys σ H, i ≤ kvs.length → Pv i ys σ H → ys.length ≤ i ∧ H d = some (.frz ob (.dK kvs)))
  (turn : ∀ i ys σ H kv, kvs[i]? = some kv → Pv i ys σ H → g (kV kv.1) σ H fun σ2 H2 => tt σ2 H2 fun b H3 => if b = true then te σ2 H3 fun y H4 => Pv (i + 1) (ys ++ [y]) σ2 H4 else Pv (i + 1) ys σ2 H3)
  (after : ∀ ys σ H, Pv kvs.length ys σ H → Q ys H) : Comp (Itd d ob kvs) g tt te Q σ H :=
 zaeg kvs.length Pv h0 (fun i ys σ H hi p => Nat.lt_of_le_of_lt (Nat.le_trans (hl i ys σ H hi p).1 hi) hn) (fun i ys σ H hi p => ⟨(hl i ys σ H (Nat.le_of_lt hi) p).2, hi⟩)
  (fun ys σ H p => ⟨(hl _ ys σ H (Nat.le_refl _) p).2, Nat.le_refl _⟩) (fun i ys σ H hi p x H' y => by obtain ⟨rfl, kv, e, rfl⟩ := y; exact turn i ys σ _ kv e p) after
def Thaw (H0 : Hp) (q : Hp → Prop) (H : Hp) : Prop := ∃ d ob kvs, H d = some (.frz ob (.dK kvs)) ∧ (∀ b u, H0 d ≠ some (.frz b u)) ∧ q (upd H d (.dK kvs))
def tThaw (H0 : Hp) (t : TS) : TS := fun D σ H => t { nx := fun σ' H' => Thaw H0 (D.nx σ') H', rt := fun v H' => Thaw H0 (D.rt v) H', bk := fun σ' H' => Thaw H0 (D.bk σ') H', ct := fun σ' H' => Thaw H0 (D.ct σ') H' } σ H
def eThaw (H0 : Hp) (t : TE) : TE := fun σ H Q => t σ H fun v H' => Thaw H0 (Q v) H'
theorem zaj4 {X : Cx} {st : Stmt} {t : TS} (h : Pr (PS X st t)) : Pr (PS X st (tThaw X.H₀ t)) := by
 refine ⟨?_⟩
 intro pins s σ H D I q
 refine thn (h.h pins s σ H _ I q) fun f s1 q1 => ?_
 cases f with
 | next => obtain ⟨σ1, H1, I1, d, ob, kvs, e, nf, z⟩ := q1; exact ⟨σ1, _, I1.thaw e nf, z⟩
 | brk => obtain ⟨σ1, H1, I1, d, ob, kvs, e, nf, z⟩ := q1; exact ⟨σ1, _, I1.thaw e nf, z⟩
 | cont => obtain ⟨σ1, H1, I1, d, ob, kvs, e, nf, z⟩ := q1; exact ⟨σ1, _, I1.thaw e nf, z⟩
 | ret v => obtain ⟨x, σ1, H1, I1, r, d, ob, kvs, e, nf, z⟩ := q1; exact ⟨x, σ1, _, I1.thaw e nf, r, z⟩
theorem zap0 {X : Cx} {ex : Expr} {t : TE} (h : Pr (PE X ex t)) : Pr (PE X ex (eThaw X.H₀ t)) := by
 refine ⟨?_⟩
 intro pins s σ H Q I q
 refine thn (h.h pins s σ H _ I q) fun v s1 q1 => ?_
 obtain ⟨x, H1, I1, r, d, ob, kvs, e, nf, z⟩ := q1
 exact ⟨x, _, I1.thaw e nf, r, z⟩
end L2

namespace L2
open PySem PySem.Spec PyProof.Rows
structure ClsFn (K : PySem.W.Frag) (C : Addr) (m : Str) (f : Addr) : Prop where
 hg : PySem.W.specialIn K (.ref C) "__getattribute__" = some (some (.builtin "type.__getattribute__"))
 rd : PySem.W.readsIn K C (.type "type") = true
 fd : PySem.W.findCls K (.ref C) (.type "type") m = some (.val (.ref f))
 kp : PySem.W.keepIn K (.ref f) = true
structure ClsOk (P : Program) (w : World) (K : PySem.W.Frag) (mg : Str → Option Value) (base : Heap) (CX : CXT) (k : Nat) (x : Str) (m : Str) (ps : List Str) (sp : Sp) : Prop where
 ex : ∃ (C f : Addr) (fd : FuncData), FnOk P w K mg base CX k f fd ps sp ∧ Binds K fd ps [] ∧ ClsFn K C m f ∧ mg x = some (.ref C)
section
variable {X : Cx} {CX : CXT} {k : Nat} {ps : List Str} {sp : Sp} {E : XK} {x m : Str} {p pos apos : Pos} {e : Expr} {es : List Expr} {t : TA}
theorem zap1 {pl : Sem Bool} (D : ClsOk X.prog X.w X.K X.mg X.base CX k x m ps sp) (hr : Room k X.A) (hg : Gl X x) (hx : Passes CX X E) (ha : Pr (PA X (e :: es) t)) (hdb : (x == ("__debug__" : Str)) = false := by decide)
  (hst : starEach (e :: es) X.env = (false, eval e X.env) :: starEach es X.env := by rfl) (hpl : (backTo pos (starEach es X.env)).any (·.1) = false := by rfl)
  (ht : eval (.Call (.Attribute (.Name x p) m apos) (e :: es) [] pos) X.env = (do
   let ov ← eval (.Name x p) X.env
   standAt apos.atName
   let (f, first) ← holding [ov] (getMethod ov m pl)
   callWith pos f first (backTo pos (starEach (e :: es) X.env)) (backToKw pos (keywordEach [] X.env))) := by rfl) :
  Pr (PE X (.Call (.Attribute (.Name x p) m apos) (e :: es) [] pos) (tCall sp [] E t)) := by
 refine ⟨?_⟩
 obtain ⟨C, f, fd, F, b, cf, hm⟩ := D.ex
 intro pins s σ H Q I h
 have hn : PE X (.Name x p) (fun σ H Q => Q (.ref C) H) := zalb (v := .ref C) hg hm rfl hdb
 refine PySem.W.methodCall_KW (pl := pl) (thn (hn pins s σ H (fun v H' => v = .ref C ∧ H' = H) I ⟨rfl, rfl⟩) fun u s1 ⟨v, H1, I1, rx, e1, e2⟩ => ?_) ht
 subst e1
 subst e2
 obtain rfl : u = Value.ref C := rx
 refine PySem.W.method_cls I1.kIn cf.hg (PySem.W.cls_value I1.kIn cf.rd cf.fd rfl ?_)
 refine PySem.W.callWith_K (h₀ := X.base) I.ok.mod.kin cf.kp (thn (ha.h pos pins _ σ H1 _ (I1.tok _) h) fun us s2 ⟨vs, H2, I2, r, q2⟩ => ⟨I2.kIn, ?_⟩) hst hpl
 exact zajt F hr b .nil hx I2 r q2
end
def rDictC : List V → Hp → VK → Prop := fun xs H Q => ∃ (a : Addr) (kvs : List (Key × V)), xs = [.ref a] ∧ H a = some (.dK kvs) ∧ ∀ d, H d = none → Q (.ref d) (upd H d (.dK kvs))
theorem zakw {X : Cx} : CallR X (.type "dict") rDictC := by
 intro pins s σ H xs us Q I r h
 obtain ⟨a, kvs, rfl, ha, q⟩ := h
 obtain ⟨u, rfl, ru⟩ := vals1 r
 cases ru
 obtain ⟨hz, nS, vs, kv, hd⟩ := (I.hok a _ ha : ObjOk X.prog X.w H s.heap a (.dK kvs))
 have lv : vs.length = kvs.length := (Paired.length kv).symm
 refine kt_call_dict nS hd (by omega) fun h' hd' sb => ?_
 have kp : ∀ b o, s.heap.get? b = some o → h'.get? b = some o := fun b o e => (sb.2 b (Nat.ne_of_lt (Heap.lt_size e))).trans (Heap.get?_push_of_some _ e)
 have nS2 : (s.heap.objs.size == sysModules) = false := beq_eq_false_iff_ne.mpr (Ne.symm (Nat.ne_of_lt I.big))
 exact ⟨.ref s.heap.objs.size, _, I.laid (t' := s.toks) kp (Nat.le_refl _) (show ObjOk X.prog X.w _ h' _ (.dK kvs) from ⟨hz, nS2, vs, kv, hd'⟩), rfl, q _ (I.hok.fresh (Nat.le_refl _))⟩
def ViewO (v d : Addr) : HO := .ext fun h => h.IsValuesView v d
def rValues : V → List V → Hp → VK → Prop := fun x vs H Q => ∃ (a : Addr) (kvs : List (Key × V)), x = .ref a ∧ vs = [] ∧ H a = some (.dK kvs) ∧ ∀ v, H v = none → Q (.ref v) (upd H v (ViewO v a))
theorem zamr {X : Cx} : MtR X "dict.values" rValues := by
 intro pins s σ H x vs v us Q I rx rv h
 obtain ⟨a, kvs, rfl, rfl, ha, q⟩ := h
 cases rx
 cases rv
 obtain ⟨hz, nS, vs, kv, hd⟩ := (I.hok a _ ha : ObjOk X.prog X.w H s.heap a (.dK kvs))
 have e := Heap.get?_push_size s.heap (o := { cls := .type "dict_values", data := .fields #[.ref a] }) rfl
 refine call_meetsIn PySem.F.slot_dict_values hd.typeIs PySem.F.entry_dict_values (PySem.F.args_dict_values_1 _) (meets_dict_values (mixKind X.prog X.w) a nS) ⟨⟨vs, hd⟩, ?_⟩
 refine ⟨.ref s.heap.objs.size, _, I.laid (t' := s.toks) (fun b o q => Heap.get?_push_of_some _ q) (Nat.le_refl _) (show ObjOk X.prog X.w _ _ _ (ViewO _ a) from ⟨⟨_, e, rfl, rfl⟩, ⟨_, e⟩, fun h1 h2 ⟨o, e1, e2⟩ k => ⟨o, k o e1, e2⟩⟩), rfl, q _ (I.hok.fresh (Nat.le_refl _))⟩
theorem zakx {X : Cx} {o : Expr} {td : TE} {apos cpos : Pos} (ho : Pr (PE X o td)) (hbase : attributeBase o "values" X.env (eval o X.env) = eval o X.env := by rfl) (hline : (apos.endLine == cpos.line) = true := by rfl) : Pr (PE X (.Call (.Attribute o "values" apos) [] [] cpos) (tBM0 X.K "dict" rValues td)) :=
 ⟨zaqn PySem.F.plainAttrs_dict PySem.F.slot_dict_values PySem.F.type_dict_values zamr ho.h hbase hline⟩
def rListV : List V → Hp → VK → Prop := fun xs H Q => ∃ (v a : Addr) (kvs : List (Key × V)), xs = [.ref v] ∧ H v = some (ViewO v a) ∧ H a = some (.dK kvs) ∧ ∀ l, H l = none → Q (.ref l) (upd H l (.lst (kvs.map (·.2))))
theorem zams : ∀ {kvs : List (Key × V)} {vs : List (Key × Value)}, KV kvs vs → Vals (kvs.map (·.2)) (vs.map (·.2))
 | _, _, .nil => .nil
 | _, _, .cons a t => .cons a.2 (zams t)
theorem zaky {X : Cx} (hc : X.calm = true) : CallR X (.type "list") rListV := by
 intro pins s σ H xs us Q I r h
 obtain ⟨v, a, kvs, rfl, hv, ha, q⟩ := h
 obtain ⟨u, rfl, ru⟩ := vals1 r
 cases ru
 obtain ⟨hz, nS, vs, kv, hd⟩ := (I.hok a _ ha : ObjOk X.prog X.w H s.heap a (.dK kvs))
 have hvw := (I.hok v _ hv : ObjOk X.prog X.w H s.heap v (ViewO v a)).1
 have lv : vs.length = kvs.length := (Paired.length kv).symm
 obtain ⟨ep, hat⟩ := hd.dictAt
 refine PySem.W.kdl_call (PySem.W.kdl_values (knd := mixKind X.prog X.w) (kvs := vs) (ep := ep)) (I.ok.hd hc) ⟨hvw, hat⟩ (by omega) fun h' tk acc c kp e it => ?_
 have e2 : acc.toList = vs.map (·.2) := PySem.W.kdl_vals_eq acc.toList (by simpa using it.1) fun j w hw => it.2 j w (by simpa using hw)
 have e3 : acc = (vs.map (·.2)).toArray := by rw [← e2]
 rw [e3] at e
 exact ⟨.ref s.heap.objs.size, _, I.laid (t' := tk) kp (Nat.le_refl _) (show ObjOk X.prog X.w _ h' _ (.lst (kvs.map (·.2))) from ⟨by simpa using hz, _, _, zams kv, e⟩), rfl, q _ (I.hok.fresh (Nat.le_refl _))⟩
structure LDx (K : PySem.W.Frag) (x y : V) (H : Hp) (Q : VK) : Prop where
 ex : ∃ p, x = .ref p ∧ ((∃ xs i, y = .int i ∧ SqL K H p xs ∧ Atx xs i fun v => Q v H) ∨ ∃ v, DGet H p y (some v) ∧ Q v H)
def aIxLD (K : PySem.W.Frag) : R2 := fun x y H Q => LDx K x y H Q
theorem zap2 {X : Cx} (hu : X.A.units + 1 < cLine) : IxR X (fun x y H Q => ∃ p v, x = .ref p ∧ DGet H p y (some v) ∧ Q v H) := by
 intro value slice pins s σ H x y o i Q I rx ry h hs
 obtain ⟨a, v, rfl, g, q2⟩ := h
 cases rx
 have hT := zae9 I g
 unfold subscriptTail
 refine wpAny_bind ?_
 rw [getitemInPython_of_ne hT.not_modules]
 refine wpAny_bind (wpAny_specialOf hT PySem.F.slot_dict_getitem.lookup ?_)
 have fin : wpAny (model X.prog X.w) X.A (subscripted slice false (.ref a) i) (fun r s₃ => wpAny (model X.prog X.w) X.A (letTemporaryGo value (.ref a) r >>= fun _ => pure r) (EP X pins σ Q) X.xe s₃) X.xe s := by
  rw [hs]
  exact wpAny_operating (wpAny_mono (zah1 (Q := EP X pins σ Q) (E := X.xe) hu I g ry fun w' s3 I3 rw' => ⟨v, H, I3, rw', q2⟩) (fun r s₃ h₃ => wpAny_bind (wpAny_letTemporaryGo (wpAny_pure h₃))) fun _ _ x => x)
 first
  | exact wpAny_pure (wpAny_bind fin)
  | exact wpAny_pure fin
theorem zamt {X : Cx} (hu : X.A.units + 1 < cLine) (K : PySem.W.Frag) (hK : X.K = K) : IxR X (aIxLD K) := by
 subst hK
 refine (IxR.or zaa4 (zap2 hu)).imp fun x y H Q ⟨⟨p, e, h⟩⟩ => ?_
 rcases h with ⟨xs, i, e2, sq, a⟩ | ⟨v, g, q⟩
 ·exact .inl ⟨p, xs, i, e, e2, sq, a⟩
 ·exact .inr ⟨p, v, e, g, q⟩
end L2

namespace L2
open PySem PySem.W PyProof.Rows PySem.Calls
def rSrtD : List V → Hp → VK → Prop := fun xs H Q => ∃ (a : Addr) (kvs : List (Key × V)) (ns : List Int), xs = [.ref a] ∧ H a = some (.dK kvs) ∧ kvs.map (·.1) = ns.map Sum.inl ∧ ns.length < 64 ∧ ns.Pairwise (· ≤ ·) ∧ ∀ p, H p = none → Q (.ref p) (upd H p (.lst (ns.map V.int)))
theorem zamu {h : Heap} {a : Addr} {xs : Array Value} {n : Nat} (hO : h.get? a = some (seqObj "list" xs n)) (vs : List Value) (out : Array Value) : KeptBut a h (sortedHeap h a vs out) ∧ ∃ c, (sortedHeap h a vs out).get? a = some (seqObj "list" out c) := by
 obtain ⟨e1, hO1⟩ : ∃ e1, (h.update a (Obj.mapSeq fun _ => (#[] : Array Value))).get? a = some (seqObj "list" #[] e1) := ⟨_, get?_update_seq hO fun _ => #[]⟩
 have na := Heap.get?_push_of_some (seqObj "list" #[] 0) (Heap.get?_push_of_some (seqObj "tuple" vs.toArray 0) hO1)
 refine ⟨fun b o nb e => ?_, _, get?_update_seq na fun _ => out⟩
 unfold sortedHeap
 rw [Heap.get?_update_ne _ _ _ _ nb]
 exact Heap.get?_push_of_some _ (Heap.get?_push_of_some _ (by rw [Heap.get?_update_ne _ _ _ _ nb]; exact e))
theorem zah7 : ∀ {vs : List Value} {ns : List Int}, IntsAre vs ns → Vals (ns.map V.int) vs
 | _, _, .nil => .nil
 | _, _, .cons _ u t => .cons ⟨u, rfl⟩ (zah7 t)
theorem zamv {P : Program} {w : World} : ∀ {kvs : List (Key × V)} {vs : List (Key × Value)} {es : List DictEntry} {ns : List Int}, KV kvs vs → Pairs (mixKind P w) es vs → kvs.map (·.1) = ns.map Sum.inl → IntsAre (es.map (·.key)) ns
 | _, _, _, ns, .nil, .nil, e => by
  cases ns with
  | nil => exact .nil
  | cons n r => cases e
 | _, _, _, ns, .cons a t, .cons b _ r, e => by
  cases ns with
  | nil => cases e
  | cons n r' =>
   simp only [List.map_cons, List.cons.injEq] at e
   have ih := zamv t r e.2
   have kr := zamn b
   rw [← a.1, e.1] at kr
   obtain ⟨u, eu⟩ := kr
   rw [List.map_cons, eu]
   exact .cons _ _ ih
theorem zah8 {X : Cx} (hc : X.calm = true) : CallR X (.builtin "sorted") rSrtD := by
 intro pins s σ H xs us Q I r h
 obtain ⟨a, kvs, ns, rfl, ha, ek, h64, hs, q⟩ := h
 obtain ⟨u, rfl, ru⟩ := vals1 r
 cases ru
 obtain ⟨hz, nS, vs, kv, o, es, ep, h1, h2, h3, h4, h5, _⟩ := (I.hok a _ ha : ObjOk X.prog X.w H s.heap a (.dK kvs))
 have m : DAt s.heap a es ep := ⟨o, h1, h2, h3⟩
 have hI := zamv kv h5 ek
 have hlen : es.size = ns.length := by have := hI.length; simpa using this
 have hh : X.A.handled = none := I.ok.hd hc
 refine call_function_entry kind_sorted plain_sorted entry_sorted (args_sorted1 _) ?_
 unfold Builtin.«sorted»
 refine wpAny_bind (m := checkCount "sorted" 1 1 _) (wpAny_pure (wpAny_bind (zapz (by exact hh) nS m (by rw [sizeLine_eq]; omega) fun h' kp lt => ?_)))
 generalize hvs : es.toList.map (·.key) = us at hI
 have lv : us.length = ns.length := by rw [← hvs]; simpa using hlen
 refine wpAny_bind (wpAny_newList ?_ (by rw [sizeLine_eq]; omega))
 have hD : (h'.push (seqObj "list" us.toArray 0)).get? h'.objs.size = some (seqObj "list" us.toArray 0) := Heap.get?_push_size _ rfl
 have kD : ∀ b o, s.heap.get? b = some o → b ≠ h'.objs.size ∧ (h'.push (seqObj "list" us.toArray 0)).get? b = some o := fun b o e => ⟨Nat.ne_of_lt (Heap.lt_size (kp b o e)), Heap.get?_push_of_some _ (kp b o e)⟩
 have szD : s.heap.objs.size ≤ h'.objs.size := Nat.le_of_lt lt
 refine wpAny_bind (wpAny_holding (wpAny_call_entry slot_list_sort ⟨_, hD, rfl⟩ entry_list_sort (list_sort_tree hD hI (by omega) fun out ns' a1 a2 a3 => ⟨_, rfl, wpAny_pure ⟨_, rfl, ?_⟩⟩) (args_list_sort _)))
 obtain ⟨kb, c, ec⟩ := zamu hD us out
 have en : ns' = ns := a2.eq_of_pairwise (fun _ _ _ _ => Int.le_antisymm) a3 hs
 subst en
 exact ⟨.ref h'.objs.size, _, I.laid (t' := s.toks) (fun b o e' => kb b o (kD b o e').1 (kD b o e').2) szD (show ObjOk X.prog X.w _ _ _ (.lst (ns'.map V.int)) from ⟨by rw [sizeLine_eq, List.length_map]; omega, out.toList, c, zah7 a1, by simpa using ec⟩), rfl, q _ (I.hok.fresh szD)⟩
end L2

namespace L2
theorem zab5 {α : Type} : ∀ {l m : List α}, l.Nodup → (∀ x ∈ l, x ∈ m) → l.length ≤ m.length
 | [], _, _, _ => Nat.zero_le _
 | x :: l, m, nd, h => by
  obtain ⟨n1, n2⟩ := List.nodup_cons.mp nd
  obtain ⟨a, b, rfl⟩ := List.append_of_mem (h x (by simp))
  have := zab5 (l := l) (m := a ++ b) n2 fun y hy => by
   have ne : y ≠ x := fun z => n1 (by rw [← z]; exact hy)
   rcases List.mem_append.mp (h y (by simp [hy])) with z | z
   ·exact List.mem_append_left _ z
   ·rcases List.mem_cons.mp z with z | z
    ·exact absurd z ne
    ·exact List.mem_append_right _ z
  simp at this ⊢
  omega
def wt (ls : Nat → List Nat) (order : List Nat) (o : Nat) : Nat := ((ls o).filter fun s => decide (s ∉ order)).length
theorem zaj5 {order : List Nat} {x : Nat} (hx : x ∉ order) : ∀ l : List Nat, (l.filter fun s => decide (s ∉ order ++ [x])).length + l.count x = (l.filter fun s => decide (s ∉ order)).length
 | [] => rfl
 | s :: l => by
  have ih := zaj5 hx l
  rw [List.filter_cons, List.filter_cons, List.count_cons]
  by_cases e : s = x
  ·subst e
   simp [hx] at ih ⊢
   omega
  ·by_cases h : s ∈ order
   ·simp [h, e] at ih ⊢
    exact ih
   ·simp [h, e] at ih ⊢
    omega
theorem zafh {ls : Nat → List Nat} {order : List Nat} {x : Nat} (hx : x ∉ order) (o : Nat) : wt ls (order ++ [x]) o + (ls o).count x = wt ls order o := zaj5 hx (ls o)
theorem zaqr {ls : Nat → List Nat} {order : List Nat} {x o : Nat} (hx : x ∉ order) (h : x ∈ ls o) : 0 < wt ls order o := by
 have := zafh (ls := ls) hx o
 have c : 0 < (ls o).count x := List.count_pos_iff.mpr h
 omega
structure Kahn (loose : List Nat) (ls : Nat → List Nat) (order ready : List Nat) : Prop where
 no : order.Nodup
 nr : ready.Nodup
 ol : ∀ o ∈ order, o ∈ loose
 rl : ∀ o ∈ ready, o ∈ loose ∧ o ∉ order
 oz : ∀ o ∈ order, wt ls order o = 0
 rz : ∀ o ∈ loose, o ∉ order → (o ∈ ready ↔ wt ls order o = 0)
 tp : ∀ i x, order[i]? = some x → ∀ s ∈ ls x, s ∈ order.take i
structure Mid (loose : List Nat) (ls : Nat → List Nat) (order : List Nat) (x : Nat) (done ready : List Nat) : Prop where
 nr : ready.Nodup
 rl : ∀ o ∈ ready, o ∈ loose ∧ o ∉ order ∧ o ≠ x
 rz : ∀ o ∈ loose, o ∉ order → o ≠ x → (o ∈ ready ↔ wt ls order o = done.count o)
theorem Kahn.pop {loose : List Nat} {ls : Nat → List Nat} {order ready : List Nat} {x : Nat} (k : Kahn loose ls order (ready ++ [x])) : x ∈ loose ∧ x ∉ order ∧ wt ls order x = 0 ∧ Mid loose ls order x [] ready := by
 obtain ⟨a, b⟩ := k.rl x (by simp)
 obtain ⟨n1, n2, n3⟩ := List.nodup_append.mp k.nr
 refine ⟨a, b, (k.rz x a b).mp (by simp), n1, fun o ho => ⟨(k.rl o (by simp [ho])).1, (k.rl o (by simp [ho])).2, fun e => n3 o ho x (by simp) e⟩, fun o h1 h2 h3 => ?_⟩
 rw [List.count_nil, ← k.rz o h1 h2, List.mem_append, List.mem_singleton]
 exact ⟨.inl, fun z => z.resolve_right h3⟩
structure FedBy (loose : List Nat) (ls : Nat → List Nat) (x : Nat) (fed : List Nat) : Prop where
 m : ∀ o ∈ fed, o ∈ loose ∧ x ∈ ls o
 c : ∀ o ∈ loose, fed.count o = (ls o).count x
theorem zagt {l : List Nat} (j o : Nat) : (l.take j).count o ≤ l.count o := by
 have := congrArg (List.count o) (List.take_append_drop j l)
 rw [List.count_append] at this
 omega
theorem Mid.step {loose : List Nat} {ls : Nat → List Nat} {order ready fed : List Nat} {x o j : Nat} (k : ∀ y ∈ order, wt ls order y = 0) (hx : x ∉ order) (hz : wt ls order x = 0) (f : FedBy loose ls x fed) (m : Mid loose ls order x (fed.take j) ready) (ho : fed[j]? = some o) :
  o ∈ loose ∧ (fed.take (j + 1)).count o = (fed.take j).count o + 1 ∧ (fed.take (j + 1)).count o ≤ wt ls order o ∧ (∀ o', o' ≠ o → (fed.take (j + 1)).count o' = (fed.take j).count o') ∧
  (wt ls order o = (fed.take (j + 1)).count o → Mid loose ls order x (fed.take (j + 1)) (ready ++ [o])) ∧ (wt ls order o ≠ (fed.take (j + 1)).count o → Mid loose ls order x (fed.take (j + 1)) ready) := by
 have et : fed.take (j + 1) = fed.take j ++ [o] := by rw [List.take_add_one, ho]; rfl
 obtain ⟨h1, h2⟩ := f.m o (List.mem_of_getElem? ho)
 have p := zaqr hx h2
 have n1 : o ∉ order := fun z => by have := k o z; omega
 have n2 : o ≠ x := fun z => by rw [z] at p; omega
 have c1 : (fed.take (j + 1)).count o = (fed.take j).count o + 1 := by rw [et, List.count_append]; simp
 have c3 : ∀ o', o' ≠ o → (fed.take (j + 1)).count o' = (fed.take j).count o' := fun o' ne => by
  rw [et, List.count_append, List.count_singleton]
  have : (o == o') = false := by simpa using fun z => ne z.symm
  rw [this]; rfl
 have c2 : (fed.take (j + 1)).count o ≤ wt ls order o := by
  have a := zagt (l := fed) (j + 1) o
  have b := f.c o h1
  have c := zafh (ls := ls) hx o
  omega
 have nr : o ∉ ready := fun z => by have := (m.rz o h1 n1 n2).mp z; omega
 refine ⟨h1, c1, c2, c3, fun e => ⟨?_, ?_, ?_⟩, fun e => ⟨m.nr, m.rl, fun o' a b c => ?_⟩⟩
 ·rw [List.nodup_append]
  exact ⟨m.nr, by simp, fun a ha b hb z => nr (by rw [← List.mem_singleton.mp hb, ← z]; exact ha)⟩
 ·intro y hy
  rcases List.mem_append.mp hy with z | z
  ·exact m.rl y z
  ·rw [List.mem_singleton.mp z]; exact ⟨h1, n1, n2⟩
 ·intro o' a b c
  rw [List.mem_append, List.mem_singleton]
  by_cases eo : o' = o
  ·subst eo
   exact ⟨fun _ => e, fun _ => .inr rfl⟩
  ·rw [c3 o' eo, ← m.rz o' a b c]
   exact ⟨fun z => z.resolve_right eo, .inl⟩
 ·by_cases eo : o' = o
  ·subst eo
   exact ⟨fun z => absurd z nr, fun z => absurd z e⟩
  ·rw [c3 o' eo]
   exact m.rz o' a b c
theorem Mid.done {loose : List Nat} {ls : Nat → List Nat} {order ready fed : List Nat} {x : Nat} (tp : ∀ i x, order[i]? = some x → ∀ s ∈ ls x, s ∈ order.take i) (no : order.Nodup) (ol : ∀ o ∈ order, o ∈ loose) (k : ∀ y ∈ order, wt ls order y = 0) (hl : x ∈ loose) (hx : x ∉ order) (hz : wt ls order x = 0) (f : FedBy loose ls x fed) (m : Mid loose ls order x fed ready) :
  Kahn loose ls (order ++ [x]) ready := by
 refine ⟨?_, m.nr, ?_, ?_, ?_, ?_, ?_⟩
 ·rw [List.nodup_append]
  exact ⟨no, by simp, fun a ha b hb z => hx (by rw [← List.mem_singleton.mp hb, ← z]; exact ha)⟩
 ·intro o ho
  rcases List.mem_append.mp ho with z | z
  ·exact ol o z
  ·rw [List.mem_singleton.mp z]; exact hl
 ·intro o ho
  obtain ⟨a, b, c⟩ := m.rl o ho
  exact ⟨a, by simp [b, c]⟩
 ·intro o ho
  have := zafh (ls := ls) hx o
  rcases List.mem_append.mp ho with z | z
  ·have := k o z; omega
  ·rw [List.mem_singleton.mp z] at this ⊢; omega
 ·intro o a b
  rw [List.mem_append, List.mem_singleton, not_or] at b
  have h1 := zafh (ls := ls) hx o
  have h2 := f.c o a
  rw [m.rz o a b.1 b.2]
  omega
 ·intro i y hy s hs
  by_cases hi : i < order.length
  ·rw [List.getElem?_append_left hi] at hy
   have := tp i y hy s hs
   rw [List.take_append_of_le_length (by omega)]
   exact this
  ·have h2 := (List.getElem?_eq_some_iff.mp hy).1
   rw [List.length_append, List.length_singleton] at h2
   have e : i = order.length := by omega
   subst e
   rw [List.getElem?_append_right (Nat.le_refl _), Nat.sub_self] at hy
   cases hy
   rw [List.take_append_of_le_length (Nat.le_refl _), List.take_length]
   refine Classical.byContradiction fun n => ?_
   have := zaqr n hs
   omega
def Acy (loose : List Nat) (ls : Nat → List Nat) : Prop := ∃ r : Nat → Nat, ∀ n ∈ loose, ∀ s ∈ ls n, s ∈ loose ∧ r s < r n
theorem Kahn.all {loose : List Nat} {ls : Nat → List Nat} {order : List Nat} (k : Kahn loose ls order []) (ac : Acy loose ls) : ∀ n, n ∈ loose → n ∈ order := by
 obtain ⟨r, ac⟩ := ac
 have : ∀ m n, r n = m → n ∈ loose → n ∈ order := by
  intro m
  induction m using Nat.strongRecOn with
  | ind m ih =>
   intro n hm hn
   refine Classical.byContradiction fun h => ?_
   have nz : wt ls order n ≠ 0 := fun z => by have := (k.rz n hn h).mpr z; simp at this
   refine nz ?_
   unfold wt
   rw [List.length_eq_zero_iff, List.filter_eq_nil_iff]
   intro s hs
   obtain ⟨a, b⟩ := ac n hn s hs
   simpa using ih (r s) (by omega) s rfl a
 exact fun n hn => this (r n) n rfl hn
theorem Kahn.len {loose : List Nat} {ls : Nat → List Nat} {order : List Nat} (k : Kahn loose ls order []) (nl : loose.Nodup) (ac : Acy loose ls) : order.length = loose.length :=
 Nat.le_antisymm (zab5 k.no k.ol) (zab5 nl (k.all ac))
theorem Kahn.acy {loose : List Nat} {ls : Nat → List Nat} {order : List Nat} (k : Kahn loose ls order []) (e : order.length = loose.length) (hs : ∀ n s, s ∈ ls n → s ∈ loose) : Acy loose ls := by
 have all : ∀ n ∈ loose, n ∈ order := fun n hn => Classical.byContradiction fun h => by
  have := zab5 (l := order ++ [n]) (m := loose) (by
   rw [List.nodup_append]
   exact ⟨k.no, by simp, fun a ha b hb z => h (by rw [← List.mem_singleton.mp hb, ← z]; exact ha)⟩) fun x hx => by
    rcases List.mem_append.mp hx with z | z
    ·exact k.ol x z
    ·rw [List.mem_singleton.mp z]; exact hn
  rw [List.length_append, List.length_singleton] at this
  omega
 refine ⟨fun n => order.idxOf n, fun n hn s h => ⟨hs n s h, ?_⟩⟩
 have hi : order.idxOf n < order.length := List.idxOf_lt_length_of_mem (all n hn)
 have := k.tp (order.idxOf n) n (by rw [List.getElem?_eq_getElem hi, List.getElem_idxOf]) s h
 obtain ⟨j, hj, ej⟩ := List.getElem_of_mem this
 rw [List.length_take] at hj
 rw [List.getElem_take] at ej
 have h2 : order.idxOf s ≤ j := by
  refine Classical.byContradiction fun z => ?_
  have := List.not_of_lt_findIdx (p := (· == s)) (xs := order) (i := j) (by simpa [List.idxOf] using z)
  simp [ej] at this
 show order.idxOf s < order.idxOf n
 omega
theorem Kahn.le {loose : List Nat} {ls : Nat → List Nat} {order ready : List Nat} (k : Kahn loose ls order ready) : order.length ≤ loose.length := zab5 k.no k.ol
theorem Mid.le {loose : List Nat} {ls : Nat → List Nat} {order done ready : List Nat} {x : Nat} (m : Mid loose ls order x done ready) : ready.length ≤ loose.length := zab5 m.nr fun o ho => (m.rl o ho).1
def prs (ls : Nat → List Nat) (l : List Nat) : List (Nat × Nat) := l.flatMap fun n => (ls n).map fun s => (s, n)
def fedOf (pr : List (Nat × Nat)) (s : Nat) : List Nat := (pr.filter fun p => p.1 == s).map (·.2)
theorem zap3 (pr : List (Nat × Nat)) (s n s' : Nat) : fedOf (pr ++ [(s, n)]) s' = if s = s' then fedOf pr s' ++ [n] else fedOf pr s' := by
 unfold fedOf
 rw [List.filter_append, List.map_append]
 by_cases e : s = s'
 ·simp [e]
 ·simp [e]
theorem zamw (a b : List (Nat × Nat)) (s : Nat) : fedOf (a ++ b) s = fedOf a s ++ fedOf b s := by unfold fedOf; rw [List.filter_append, List.map_append]
theorem zamx (n s o : Nat) : ∀ l : List Nat, (fedOf (l.map fun s => (s, n)) s).count o = if o = n then l.count s else 0
 | [] => by simp [fedOf]
 | a :: l => by
  have ih := zamx n s o l
  rw [List.map_cons, show ((a, n) :: l.map fun s => (s, n)) = [(a, n)] ++ l.map fun s => (s, n) from rfl, zamw, List.count_append, ih]
  by_cases e1 : a = s <;> by_cases e2 : o = n <;> simp [fedOf, e1, e2, List.count_cons, Ne.symm] <;> omega
theorem zah9 (ls : Nat → List Nat) (s o : Nat) : ∀ l : List Nat, l.Nodup → (fedOf (prs ls l) s).count o = if o ∈ l then (ls o).count s else 0
 | [], _ => by simp [fedOf, prs]
 | n :: l, nd => by
  obtain ⟨n1, n2⟩ := List.nodup_cons.mp nd
  have ih := zah9 ls s o l n2
  unfold prs at ih ⊢
  rw [List.flatMap_cons, zamw, List.count_append, ih, zamx]
  by_cases e : o = n
  ·subst e; simp [n1]
  ·simp [e]
theorem zaug (ls : Nat → List Nat) {l : List Nat} (nd : l.Nodup) (x : Nat) : FedBy l ls x (fedOf (prs ls l) x) := by
 refine ⟨fun o ho => ?_, fun o ho => by rw [zah9 ls x o l nd, if_pos ho]⟩
 unfold fedOf at ho
 obtain ⟨p, hp, rfl⟩ := List.mem_map.mp ho
 obtain ⟨h1, h2⟩ := List.mem_filter.mp hp
 obtain ⟨n, hn, h3⟩ := List.mem_flatMap.mp h1
 obtain ⟨s, hs, rfl⟩ := List.mem_map.mp h3
 have : s = x := by simpa using h2
 subst this
 exact ⟨hn, hs⟩
end L2

namespace L2
inductive Rc (ls : Nat → List Nat) : Nat → Nat → Prop
 | one {a b : Nat} : b ∈ ls a → Rc ls a b
 | tail {a b c : Nat} : Rc ls a b → c ∈ ls b → Rc ls a c
theorem Rc.front {ls : Nat → List Nat} {a b c : Nat} (h : b ∈ ls a) (r : Rc ls b c) : Rc ls a c := by
 induction r with
 | one z => exact .tail (.one h) z
 | tail _ z ih => exact .tail ih z
theorem Rc.falls {loose : List Nat} {ls : Nat → List Nat} {r : Nat → Nat} (hr : ∀ n ∈ loose, ∀ s ∈ ls n, s ∈ loose ∧ r s < r n) {a b : Nat} (ha : a ∈ loose) (h : Rc ls a b) : b ∈ loose ∧ r b < r a := by
 induction h with
 | one z => exact hr _ ha _ z
 | tail _ z ih =>
  have := hr _ ih.1 _ z
  exact ⟨this.1, by omega⟩
theorem zauh {loose : List Nat} {ls : Nat → List Nat} (ac : Acy loose ls) {n : Nat} (hn : n ∈ loose) : ¬ Rc ls n n := fun h => by
 obtain ⟨r, hr⟩ := ac
 have := (Rc.falls hr hn h).2
 omega
theorem zaia {p q : Nat → Bool} {s : Nat} (hq : q s = true) (hp : p s = false) : ∀ {l : List Nat}, (∀ m ∈ l, p m = true → q m = true) → s ∈ l → (l.filter p).length < (l.filter q).length
 | [], _, h => by cases h
 | m :: l, hi, h => by
  have le : (l.filter p).length ≤ (l.filter q).length := by
   have hi' : ∀ m ∈ l, p m = true → q m = true := fun m hm => hi m (by simp [hm])
   clear h hi
   induction l with
   | nil => exact Nat.le_refl _
   | cons x l ih =>
    have := ih fun m hm => hi' m (by simp [hm])
    have hx := hi' x (by simp)
    rw [List.filter_cons, List.filter_cons]
    cases e : p x with
    | true => rw [hx e]; simpa using this
    | false =>
     cases e2 : q x with
     | true => simp; omega
     | false => simpa using this
  by_cases e : m = s
  ·subst e
   rw [List.filter_cons, List.filter_cons, hq, hp]
   simp
   omega
  ·have ih := zaia hq hp (l := l) (fun m hm => hi m (by simp [hm])) (by simpa [Ne.symm e] using h)
   have hx := hi m (by simp)
   rw [List.filter_cons, List.filter_cons]
   cases e1 : p m with
   | true => rw [hx e1]; simpa using ih
   | false =>
    cases e2 : q m with
    | true => simp; omega
    | false => simpa using ih
open Classical in
theorem zaui {loose : List Nat} {ls : Nat → List Nat} (hs : ∀ n s, s ∈ ls n → s ∈ loose) (no : ∀ n ∈ loose, ¬ Rc ls n n) : Acy loose ls :=
 ⟨fun n => (loose.filter fun m => decide (Rc ls n m)).length, fun n _ s h => ⟨hs n s h, zaia (s := s) (decide_eq_true (Rc.one h)) (decide_eq_false (no s (hs n s h))) (fun m _ z => decide_eq_true (Rc.front h (of_decide_eq_true z))) (hs n s h)⟩⟩
structure Sk (ls : Nat → List Nat) (n st : Nat) (met left : List Nat) : Prop where
 nd : met.Nodup
 ml : ∀ m ∈ met, m < n
 rc : ∀ m ∈ met, Rc ls st m
 lf : ∀ m ∈ left, m = st ∨ m ∈ met
 cl : ∀ m, m = st ∨ m ∈ met → m ∉ left → ∀ s ∈ ls m, s ∈ met
structure SkM (ls : Nat → List Nat) (n st x : Nat) (dn met left : List Nat) : Prop where
 nd : met.Nodup
 ml : ∀ m ∈ met, m < n
 rc : ∀ m ∈ met, Rc ls st m
 lf : ∀ m ∈ left, m = st ∨ m ∈ met
 cl : ∀ m, m = st ∨ m ∈ met → m ∉ left → m ≠ x → ∀ s ∈ ls m, s ∈ met
 dn : ∀ s ∈ dn, s ∈ met
 xr : x = st ∨ x ∈ met
section
variable {ls : Nat → List Nat} {n st x s : Nat} {dn met left : List Nat}
theorem Sk.start : Sk ls n st [] [st] := ⟨.nil, by simp, by simp, by simp, fun m h z => by
 rcases h with h | h
 ·exact absurd (by simp [h]) z
 ·cases h⟩
theorem Sk.pop (k : Sk ls n st met (left ++ [x])) : SkM ls n st x [] met left := ⟨k.nd, k.ml, k.rc, fun m hm => k.lf m (by simp [hm]), fun m h z e => k.cl m h (by simp [z, e]), by simp, k.lf x (by simp)⟩
theorem SkM.old (k : SkM ls n st x dn met left) (h : s ∈ met) : SkM ls n st x (dn ++ [s]) met left := ⟨k.nd, k.ml, k.rc, k.lf, k.cl, fun t ht => by
 rcases List.mem_append.mp ht with z | z
 ·exact k.dn t z
 ·rw [List.mem_singleton.mp z]; exact h, k.xr⟩
theorem SkM.new (k : SkM ls n st x dn met left) (h : s ∉ met) (hs : s ∈ ls x) (hn : s < n) : SkM ls n st x (dn ++ [s]) (met ++ [s]) (left ++ [s]) where
 nd := List.nodup_append.mpr ⟨k.nd, by simp, fun a ha b hb e => h (by rw [← List.mem_singleton.mp hb, ← e]; exact ha)⟩
 ml := fun m hm => by
  rcases List.mem_append.mp hm with z | z
  ·exact k.ml m z
  ·rw [List.mem_singleton.mp z]; exact hn
 rc := fun m hm => by
  rcases List.mem_append.mp hm with z | z
  ·exact k.rc m z
  ·rw [List.mem_singleton.mp z]
   rcases k.xr with e | e
   ·rw [← e]; exact .one hs
   ·exact .tail (k.rc x e) hs
 lf := fun m hm => by
  rcases List.mem_append.mp hm with z | z
  ·rcases k.lf m z with e | e
   ·exact .inl e
   ·exact .inr (List.mem_append_left _ e)
  ·exact .inr (List.mem_append_right _ z)
 cl := fun m hm z e t ht => by
  have z1 : m ∉ left := fun w => z (List.mem_append_left _ w)
  have z2 : m ≠ s := fun w => z (by simp [w])
  refine List.mem_append_left _ (k.cl m ?_ z1 e t ht)
  rcases hm with w | w
  ·exact .inl w
  ·rcases List.mem_append.mp w with w | w
   ·exact .inr w
   ·exact absurd (List.mem_singleton.mp w) z2
 dn := fun t ht => by
  rcases List.mem_append.mp ht with z | z
  ·exact List.mem_append_left _ (k.dn t z)
  ·exact List.mem_append_right _ z
 xr := by
  rcases k.xr with e | e
  ·exact .inl e
  ·exact .inr (List.mem_append_left _ e)
theorem SkM.done (k : SkM ls n st x (ls x) met left) : Sk ls n st met left := ⟨k.nd, k.ml, k.rc, k.lf, fun m h z => by
 by_cases e : m = x
 ·subst e; exact k.dn
 ·exact k.cl m h z e⟩
theorem SkM.le (k : SkM ls n st x dn met left) : met.length ≤ n := by
 have := zab5 (m := List.range n) k.nd fun y hy => List.mem_range.mpr (k.ml y hy)
 rwa [List.length_range] at this
theorem Sk.le (k : Sk ls n st met left) : met.length ≤ n := by
 have := zab5 (m := List.range n) k.nd fun y hy => List.mem_range.mpr (k.ml y hy)
 rwa [List.length_range] at this
theorem Sk.all (k : Sk ls n st met []) {m : Nat} (h : Rc ls st m) : m ∈ met := by
 induction h with
 | one z => exact k.cl st (.inl rfl) (by simp) _ z
 | tail _ z ih => exact k.cl _ (.inr ih) (by simp) _ z
theorem Sk.iff (k : Sk ls n st met []) : st ∈ met ↔ Rc ls st st := ⟨k.rc st, k.all⟩
end
end L2

namespace L2
open PySem PySem.Spec PyProof.Rows
def tMakeX (C : Addr) (sp : Sp) (t : TA) : TEX := fun σ H Q Ew => t σ H fun vs H1 => ∀ x dx, H1 x = none → H1 dx = none → dx ≠ x →
 sp (.ref x :: vs) (upd (upd H1 dx (.own x)) x (.ins C dx [])) (fun v H2 => v = .non ∧ Q (.ref x) H2) fun c _ H' => Ew c H'
section
variable {X : Cx} {k : Nat} {C : Addr} {ps : List Str} {sp : Sp} {x : Str} {p pos : Pos} {e : Expr} {es : List Expr} {t : TA}
theorem zamy (hx : Nox X) (D : MakeOk X.prog X.w X.K X.mg X.base (CXE X.prog X.w) k C x ps sp) (hr : Room (k + 1) X.A) (hg : Gl X x) (ha : Pr (PA X (e :: es) t)) (hdb : (x == ("__debug__" : Str)) = false := by decide)
  (he : starEach (e :: es) X.env = (false, eval e X.env) :: starEach es X.env := by rfl) (hpl : (backTo pos (starEach es X.env)).any (·.1) = false := by rfl) : PEX X (.Call (.Name x p) (e :: es) [] pos) (tMakeX C sp t) := by
 obtain ⟨f, fd, F, hb, M, hm⟩ := D.ex
 intro pins s0 σ H0 Q Ew I0 h
 refine wpAny_Call_Name_kw (zaeb I0 hg hm ?_ hdb)
 refine PySem.W.callWith_K (h₀ := X.base) I0.ok.mod.kin M.kp (wpAny_mono (ha.h pos pins s0 σ H0 _ I0 h) (fun us s ⟨vs, H, I, r, h⟩ => ⟨I.kIn, ?_⟩) fun _ _ z => (hx _ _ z).elim) he hpl
 have hq := h (s.heap.objs.size + 1) s.heap.objs.size (I.hok.fresh (Nat.le_succ _)) (I.hok.fresh (Nat.le_refl _)) (Nat.ne_of_lt (Nat.lt_succ_self _))
 have I2 := Inv.made (C := C) I
 have r2 : Vals (V.ref (s.heap.objs.size + 1) :: vs) (Value.ref (s.heap.objs.size + 1) :: us) := .cons rfl r
 have hl : (Value.ref (s.heap.objs.size + 1) :: us ++ []).length = ps.length := by
  have e := r2.length
  rw [F.len _ _ _ _ hq] at e
  rw [List.append_nil]
  exact e.symm
 have bt := hb _ (Value.ref (s.heap.objs.size + 1) :: us) I2.kIn hl
 rw [List.append_nil] at bt
 refine wpAny_call (zajs (f := f) I.kIn M.makes M.init (beq_iff_eq.mp M.fn) (codeAny_mono (F.run _ X.stack _ _ ⟨Value.ref (s.heap.objs.size + 1) :: us, []⟩ (Value.ref (s.heap.objs.size + 1) :: us) _ _ _ (hr.make C us []) (I2.env0.make C us []) bt r2 hq) fun r s' hq' => ?_))
 cases r with
 | error e => exact ⟨_, _, I2, hq'⟩
 | ok fl =>
  cases fl with
  | ret u =>
   obtain ⟨v, H', I3, rv, ev, q3⟩ := I2.after hq'
   subst ev
   exact ⟨rv, ⟨V.ref (s.heap.objs.size + 1), H', I3, rfl, q3⟩⟩
  | next => exact False.elim hq'
  | brk => exact False.elim hq'
  | cont => exact False.elim hq'
end
def rIsXs (K : PySem.W.Frag) : List V → Hp → VK → Prop := fun xs H Q => ∃ (ea C p : Addr) (cs : List V) (b : Bool), xs = [.ref ea, .ref p] ∧ H ea = some (exO ea C) ∧ H p = some (.tup cs) ∧ (∃ as : List Addr, cs = as.map V.ref ∧ XA K C ∧ PySem.W.kitAny K (.ref C) (as.map Value.ref) = some b) ∧ Q (.bl b) H
structure WK (K : PySem.W.Frag) (CR : Addr) (cs : List Addr) (co : Addr) : Prop where
 xa : XA K CR
 kr : PySem.W.kitOne K (.ref CR) (.ref CR) = some true
 kv : PySem.W.kitOne K (.ref CR) (.type "ValueError") = some true
 ks : PySem.W.kitAny K (.ref CR) (cs.map Value.ref) = some false
 ko : PySem.W.kitOne K (.ref CR) (.ref co) = some false
def tPar3 (i j l : Nat) (ta : TA) : TS := fun D σ H => ta σ H fun vs H1 => ∃ v w z, vs = [v, w, z] ∧ D.nx (((σ.set i (some v)).set j (some w)).set l (some z)) H1
end L2

namespace L2
open PySem PySem.Spec PyProof.Rows
def tAsgX (te : TEX) (i : Nat) : TSX := fun D Dx σ H => te σ H (fun v H1 => D.nx (σ.set i (some v)) H1) (Dx σ)
section
variable {X : Cx}
theorem zar9 {i : Nat} {x : Str} {e : Expr} {te : TEX} {pos' pos : Pos} (hN : X.N.Nodup) (hi : X.N[i]? = some x) (hx : Loc X.env.scope x) (he : PEX X e te) (hs : swapsWith e (some (.Name x pos')) pos.line X.env = pure false := by rfl) (hf : X.fn x = true ∨ X.env.scope.names.lookup x = some .local := by first | exact .inl rfl | exact .inr rfl | assumption) :
  PSX X (.Assign [.Name x pos'] e pos) (tAsgX te i) := by
 intro pins s σ H D Dx I h
 refine wpAny_Assign_Name (wpAny_mono (he pins s σ H _ _ I h) (fun v s1 ⟨y, H1, I1, r1, q1⟩ => ?_) fun e s' q => ⟨σ, q⟩) hs
 exact zae0 I1 hN hi hx r1 (fun s2 I2 => ⟨_, H1, I2, q1⟩) hf
theorem zauj : OpR X (compareOp .Is) (fun x y H Q => ∃ a b, x = .bl a ∧ y = .bl b ∧ Q (.bl (a == b)) H) := by
 intro pins s σ H x y v u Q I rx ry h
 obtain ⟨a, b, rfl, rfl, q⟩ := h
 cases rx
 cases ry
 exact is_bool (zabb I q rfl)
end
end L2

set_option maxHeartbeats 4000000
namespace B17
open PySem L2
abbrev Vs (sc : Scope) (x : Str) : Prop := sc.names.lookup x = some NameKind.local ∨ sc.names.lookup x = some NameKind.cell ∨ sc.names.lookup x = some NameKind.free
abbrev Lc (sc : Scope) (x : Str) : Prop := sc.names.lookup x = some NameKind.local ∨ sc.names.lookup x = some NameKind.cell
abbrev Gi (sc : Scope) (x : Str) : Prop := sc.names.lookup x = some NameKind.globalImplicit
abbrev Nd (x : Str) : Prop := (x == ("__debug__" : Str)) = false
abbrev Nc (x : Str) : Prop := (x == ("__classdict__" : Str)) = false
local macro_rules | `(tactic| walk_at "few") => `(tactic| (with_reducible show (List.length (α := Str × V) _) < 1000); first | exact (by decide : 0 < 1000) | exact (by decide : 1 < 1000) | exact (by decide : 2 < 1000) | exact (by decide : 3 < 1000) | exact (by decide : 4 < 1000) | exact (by decide : 5 < 1000) | exact (by decide : 6 < 1000))
local macro_rules | `(tactic| walk_at "get") => `(tactic| first
 | with_reducible assumption
 | exact zaag
 | (apply zabq; (focus with_reducible assumption); (focus walk_at "get"))
 | (apply zabg; (focus walk_at "ne"); (focus walk_at "get"))
 | (apply Ch.get; (focus with_reducible assumption); (focus walk_at "get"); (focus walk_at "notin")))
local macro_rules | `(tactic| walk_at "ne") => `(tactic| first | with_reducible assumption | (apply Ne.symm; with_reducible assumption) | (apply zabl; (focus with_reducible assumption); (focus with_reducible assumption); (focus (intro z; cases z))))
local macro_rules | `(tactic| walk_at "notin") => `(tactic| first | exact List.not_mem_nil | (simp only [List.mem_cons, List.not_mem_nil, or_false, not_or, not_false_eq_true]; first | walk_at "ne" | trivial))
local macro_rules | `(tactic| walk_at "scr") => `(tactic| first
 | with_reducible assumption
 | (apply Scr.ch; (focus with_reducible assumption); (focus with_reducible assumption); (focus walk_at "ch"))
 | (apply Scr.same; (focus with_reducible assumption); (focus walk_at "ch")))
local macro_rules | `(tactic| walk_at "ch") => `(tactic| first
 | with_reducible assumption
 | exact Ch.refl _ _
 | exact Ch.put
 | (apply Ch.new; with_reducible assumption)
 | (apply Ch.wk; with_reducible assumption)
 | (apply Ch.own; (focus with_reducible assumption); (focus walk_at "ch"))
 | (apply Ch.trans; (rotate_left; focus with_reducible assumption); (focus walk_at "ch"))
 | (apply Ch.trans; (rotate_left; focus (apply Ch.wk; with_reducible assumption)); (focus walk_at "ch"))
 | (apply Ch.trans; (rotate_left; focus exact Ch.put); (focus walk_at "ch"))
 | (apply Ch.trans; (rotate_left; focus (apply Ch.new; with_reducible assumption)); (focus walk_at "ch")))
local macro_rules | `(tactic| walk_at "sq") => `(tactic| first
 | (apply Scr.sq; walk_at "scr")
 | (apply Exists.intro; walk_at "sq")
 | (refine (‹∀ H : Hp, SqT _ H _ _›) _)
 | (apply SqL.of; walk_at "get")
 | (apply SqT.of; walk_at "get")
 | (apply Or.inl; apply Scr.sq; walk_at "scr")
 | (apply Or.inl; apply SqL.of; walk_at "get")
 | (apply Or.inr; apply SqT.of; walk_at "get"))
local macro_rules | `(tactic| walk_at "arith") => `(tactic| first
 | omega
 | (simp only [List.length_map, List.length_cons, List.length_nil, List.length_append, List.length_singleton, List.length_replicate]; done)
 | ((try dsimp only); (try simp only [List.length_map, List.length_cons, List.length_nil, List.length_append, List.length_singleton, List.length_replicate, sizeLine_eq]); omega)
 | ((try dsimp only); (try simp only [List.length_map, List.length_cons, List.length_nil, List.length_append, List.length_singleton, List.length_replicate, sizeLine_eq] at *); omega))
local macro_rules | `(tactic| walk_at "cond") => `(tactic| first
 | (refine Or.inl (And.intro ?_ ?_) <;> walk_at "arith")
 | (refine Or.inr (And.intro ?_ ?_) <;> walk_at "arith")
 | (refine And.intro ?_ (And.intro ?_ ?_) <;> walk_at "arith")
 | (refine And.intro ?_ ?_ <;> walk_at "arith"))
local macro_rules | `(tactic| walk_at "len") => `(tactic| first
 | with_reducible assumption
 | exact len_one
 | (apply len_slice; walk_at "len")
 | (apply len_app; (focus walk_at "len"); (focus walk_at "len"))
 | exact Nat.le_refl _)
local macro_rules | `(tactic| walk_at "lens") => `(tactic| first
 | (apply len_sum; (focus walk_at "len"); (focus walk_at "len"); (focus first | decide +kernel | walk_at "arith"))
 | (apply len_top; (focus walk_at "len"); (focus first | decide +kernel | walk_at "arith")))
local macro_rules | `(tactic| walk_at "side") => `(tactic| first
 | with_reducible rfl | with_reducible assumption | walk_at "sq" | walk_at "get" | walk_at "scr" | walk_at "ch" | walk_at "ty" | exact TyOf.int _ | exact TyOf.str _ | (apply TyOf.tup; walk_at "get") | (apply TyOf.lst; walk_at "get") | exact TyOf.bl _ | exact TyOf.non | walk_at "few" | decide | omega | walk_at "arith" | walk_at "cond" | ((try simp only [List.length_map]); with_reducible assumption) | walk_at "lens" | (apply Or.inr; with_reducible assumption) | walk_at "user" | exact rfl | assumption)
local macro_rules | `(tactic| walk_at "ty") => `(tactic| (refine Or.inl (And.intro rfl ?_); apply Exists.intro; walk_at "sq"))
local macro_rules | `(tactic| walk_at "user") => `(tactic| fail)
local macro_rules | `(tactic| walk_at "rd1") => `(tactic| first
 | apply Exists.intro
 | (refine And.intro rfl ?_)
 | (refine And.intro (show V.str _ = L2.kV (Sum.inr _) from rfl) ?_)
 | (refine And.intro (show V.int _ = L2.kV (Sum.inl _) from rfl) ?_)
 | (refine And.intro (L2.cut1_not _ _) ?_)
 | (apply And.intro; (focus (walk_at "side"; done)))
 | apply Atx.head
 | (apply Atx.of; (focus first | exact rfl | with_reducible assumption | ((try simp only [List.length_map]); with_reducible assumption)))
 | (apply Or.inl; apply Exists.intro; (refine And.intro rfl ?_))
 | (apply Or.inr; apply Exists.intro; (refine And.intro rfl ?_))
 | (apply Or.inl; apply And.intro; (focus walk_at "sq"))
 | (apply Or.inr; apply And.intro; (focus walk_at "sq"))
 | (intro _)
 | walk_at "fin")
local macro_rules | `(tactic| walk_at "fin") => `(tactic| first | exact rfl | (walk_at "get"; done))
local macro_rules | `(tactic| walk_at "rd") => `(tactic| repeat walk_at "rd1")
section
theorem zakz {H : Hp} {a : Addr} {kvs : List (Key × V)} {x : Str} (e : H a = some (.dK kvs)) (h : valV kvs (.inr x) = none) : DGet H a (.str x) none := h ▸ DGet.k (k := .inr x) e
local macro_rules | `(tactic| walk_at "user") => `(tactic| first
 | (apply zael; (focus walk_at "get"); (focus with_reducible assumption))
 | (apply zakz; (focus walk_at "get"); (focus with_reducible assumption))
 | (apply zabv; (focus walk_at "get"); (focus with_reducible assumption)))
def top (i : Nat) : Stmt := PySem.Challenge.pw_bitfloor_k46_packs_in_rings.main.body.getD i (.Pass ⟨0, 0, 0, 0⟩)
def SqX (k : SK) (H : Hp) (a : Addr) (xs : List V) : Prop := match k with
 | .list => H a = some (.lst xs)
 | .tuple => H a = some (.tup xs)
theorem SqX.ch {kd : SK} {H H' : Hp} {a : Addr} {xs : List V} (h : SqX kd H a xs) (c : Ch [] H H') : SqX kd H' a xs := by
 cases kd with
 | list => exact c.get h (by simp)
 | tuple => exact c.get h (by simp)
def bi : Bool → Int
 | true => 1
 | false => 0
def bV (b : Bool) : V := .int (bi b)
theorem zagu {α : Type} (x : α) : ∀ n : Nat, (List.replicate n [x]).flatten = List.replicate n x
 | 0 => rfl
 | n + 1 => by rw [List.replicate_succ, List.flatten_cons, zagu x n, List.replicate_succ]; rfl
theorem chFree {H H' : Hp} (c : Ch [] H H') {r : Addr} (h : H' r = none) : H r = none := by
 cases e : H r with
 | none => rfl
 | some o => rw [c r o e (by simp)] at h; cases h
inductive Th (H : Hp) : V → Prop
 | int (i : Int) : Th H (.int i)
 | non : Th H .non
 | bl (b : Bool) : Th H (.bl b)
 | str (x : Str) : Th H (.str x)
theorem Th.any {H H' : Hp} {v : V} (t : Th H v) : Th H' v := by
 cases t with
 | int i => exact .int i
 | non => exact .non
 | bl b => exact .bl b
 | str x => exact .str x
def isI : V → Bool
 | .int _ => true
 | _ => false
def belB (v : V) (b : Int) : Bool := match v with
 | .int i => decide (0 ≤ i) && decide (i < b)
 | _ => false
def okB (v : V) : Prop := belB v 2 = true
abbrev Wr := List Key
abbrev Src := Bool × Nat
def wd (b : Bool) : Str := if b then "block" else "in"
def srcK (s : Src) : Wr := [.inr (wd s.1), .inl (s.2 : Int)]
def lim (a c : Nat) (b : Bool) : Nat := if b then c else a
def cntK (a c : Nat) : List (Key × V) := [(.inr "in", .int (a : Int)), (.inr "block", .int (c : Int))]
theorem zaiw (a c : Nat) (b : Bool) : valV (cntK a c) (.inr (wd b)) = some (.int (lim a c b : Int)) := by cases b <;> rfl
abbrev WsAt (H : Hp) : List Wr → List Addr → Prop := Paired (fun k p => H p = some (.tup (k.map kV)))
theorem zaal {α β : Type} {R S : α → β → Prop} (h : ∀ x y, R x y → S x y) : ∀ {xs : List α} {ys : List β}, Paired R xs ys → Paired S xs ys
 | _, _, .nil => .nil
 | _, _, .cons a t => .cons (h _ _ a) (zaal h t)
theorem zaca {α β : Type} {R : α → β → Prop} {x : α} {y : β} (h : R x y) : ∀ {xs : List α} {ys : List β}, Paired R xs ys → Paired R (xs ++ [x]) (ys ++ [y])
 | _, _, .nil => .cons h .nil
 | _, _, .cons a t => .cons a (zaca h t)
theorem zaba {α : Type} {R : α → Addr → Prop} : ∀ {xs : List α} {ps : List Addr}, Paired R xs ps → ∀ (i : Nat) (v : V), (ps.map V.ref)[i]? = some v → ∃ p x, v = .ref p ∧ xs[i]? = some x ∧ R x p
 | _, _, .nil, i, x, h => by simp at h
 | k :: ws, p :: ps, .cons a t, 0, x, h => ⟨p, k, by simpa using h.symm, rfl, a⟩
 | k :: ws, p :: ps, .cons a t, i + 1, x, h => by
  obtain ⟨p', k', e1, e2, e3⟩ := zaba t i x (by simpa using h)
  exact ⟨p', k', e1, by simpa using e2, e3⟩
theorem bi01 (b : Bool) : 0 ≤ bi b ∧ bi b < 2 := by cases b <;> decide
def room (n : Nat) : Int := [2, 4, 16, 256, 65536].getD n 2
def PX (xs : List V) : Prop := xs.length ≠ 2 ∨ ∃ w n, xs = [.str w, .int n]
def inB (o : Option V) (n : Int) : Bool := match o with
 | some (.int m) => decide (0 ≤ n) && decide (n < m)
 | _ => false
def plB (a c : Nat) : List V → Bool
 | [.str w, .int n] => inB (valV (cntK a c) (.inr w)) n
 | _ => false
theorem zasa {a c : Nat} {xs : List V} (h : xs.length ≠ 2) : plB a c xs = false := by
 unfold plB
 split
 ·exact absurd rfl h
 ·rfl
theorem zasb {a c : Nat} {k : Key} {v : V} (h : valV (cntK a c) k = some v) : ∃ m, v = .int m := by
 unfold valV at h
 obtain ⟨kv, e, rfl⟩ := Option.map_eq_some_iff.mp h
 have := List.mem_of_find?_eq_some e
 simp only [cntK, List.mem_cons, List.not_mem_nil, or_false] at this
 rcases this with rfl | rfl <;> exact ⟨_, rfl⟩
abbrev PgAt (H : Hp) (xs : List V) (p : Addr) : Prop := H p = some (.tup xs) ∧ PX xs
inductive TG
 | odd
 | tb (ls : List (List V)) (bits : Int)
def rm (n : Nat) : Int := 1 * 2 ^ (1 * 2 ^ ((n : Nat) : Int).toNat : Int).toNat
def tgB (a c : Nat) : TG → Bool
 | .odd => false
 | .tb ls bits => decide (ls.length ≤ 4) && (belB (.int bits) (rm ls.length) && ls.all (plB a c))
def TgAt (kd : SK) (H : Hp) (t : TG) (p : Addr) : Prop := match t with
 | .odd => ∃ ys, H p = some (.tup ys) ∧ ys.length ≠ 2
 | .tb ls bits => ∃ lp ps, H p = some (.tup [.ref lp, .int bits]) ∧ SqX kd H lp (ps.map V.ref) ∧ Paired (PgAt H) ls ps
theorem SqX.sq {kd : SK} {K : PySem.W.Frag} {H : Hp} {a : Addr} {xs : List V} (h : SqX kd H a xs) : Sq kd K H a xs := by
 cases kd with
 | list => exact SqL.of h
 | tuple => exact SqT.of h
theorem SqX.or {kd : SK} {K : PySem.W.Frag} {H : Hp} {a : Addr} {xs : List V} (h : SqX kd H a xs) : SqL K H a xs ∨ SqT K H a xs := by
 cases kd with
 | list => exact .inl (SqL.of h)
 | tuple => exact .inr (SqT.of h)
theorem zamz {xs : List V} (h : ¬(!decide (V.int (xs.length : Int) = V.int 2)) = true) : xs.length = 2 := by
 have : (xs.length : Int) = 2 := by simpa using h
 omega
theorem PgAt.tu {H H' : Hp} (k : Tu H H') {xs : List V} {p : Addr} (s : PgAt H xs p) : PgAt H' xs p := ⟨k _ _ s.1, s.2⟩
inductive BG
 | odd
 | bk (ls : List (List V)) (bits kept first : Int)
def bkB (a c : Nat) : BG → Bool
 | .odd => false
 | .bk ls bits kept first => tgB a c (.tb ls bits) && (belB (.int kept) 2 && belB (.int first) (kept + 1))
def BgAt (kd : SK) (H : Hp) (t : BG) (p : Addr) : Prop := match t with
 | .odd => ∃ ys, H p = some (.tup ys) ∧ ys.length ≠ 4
 | .bk ls bits kept first => ∃ lp ps, H p = some (.tup [.ref lp, .int bits, .int kept, .int first]) ∧ SqX kd H lp (ps.map V.ref) ∧ Paired (PgAt H) ls ps
theorem BgAt.ch {kd : SK} {H H' : Hp} (c : Ch [] H H') {t : BG} {p : Addr} (s : BgAt kd H t p) : BgAt kd H' t p := by
 cases t with
 | odd => obtain ⟨ys, h, n⟩ := s; exact ⟨ys, c.get h (by simp), n⟩
 | bk ls bits kept first => obtain ⟨lp, ps, h, q, w⟩ := s; exact ⟨lp, ps, c.get h (by simp), q.ch c, zaal (fun _ _ e => PgAt.tu (Tu.same c) e) w⟩
theorem zap4 {xs : List V} (h : ¬(!decide (V.int (xs.length : Int) = V.int 4)) = true) : xs.length = 4 := by
 have : (xs.length : Int) = 4 := by simpa using h
 omega
section
variable {P : Program} {w : World} {K : PySem.W.Frag} {mg : Str → Option Value} {base : Heap} {f : Addr} {fd : FuncData} {k : Nat}
theorem zaai : bootBuiltins "isinstance" = some (.builtin "isinstance") := by decide +kernel
theorem zaix : bootBuiltins "bool" = some (.type "bool") := by decide +kernel
theorem zaiy : ("bool" : Str) ≠ "__name__" := by decide +kernel
theorem zaiz : Nd "bool" := by decide +kernel
theorem zaaj : ("isinstance" : Str) ≠ "__name__" := by decide +kernel
theorem zaak : Nd "isinstance" := by decide +kernel
theorem zaj6 : bootBuiltins "int" = some (.type "int") := by decide +kernel
theorem zaj7 : ("int" : Str) ≠ "__name__" := by decide +kernel
theorem zaj8 : Nd "int" := by decide +kernel
theorem zafi : Nd "is_whole" := by decide +kernel
theorem zabw : bootBuiltins "tuple" = some (.type "tuple") := by decide +kernel
theorem zabx : ("tuple" : Str) ≠ "__name__" := by decide +kernel
theorem zaby : Nd "tuple" := by decide +kernel
theorem zacu : bootBuiltins "list" = some (.type "list") := by decide +kernel
theorem zacv : ("list" : Str) ≠ "__name__" := by decide +kernel
theorem zacw : Nd "list" := by decide +kernel
theorem zaib : bootBuiltins "str" = some (.type "str") := by decide +kernel
theorem zaic : ("str" : Str) ≠ "__name__" := by decide +kernel
theorem zaid : Nd "str" := by decide +kernel
theorem zabc : ("len" : Str) ≠ "__name__" := by decide +kernel
theorem zabd : Nd "len" := by decide +kernel
theorem zaco : Nd "is_below" := by decide +kernel
theorem zacr : Nd "is_listed" := by decide +kernel
theorem zafj : bootBuiltins "all" = some (.builtin "all") := by decide +kernel
theorem zafk : Nd "is_place" := by decide +kernel
theorem zafl : ("all" : Str) ≠ "__name__" := by decide +kernel
theorem zafm : Nd "all" := by decide +kernel
theorem zai0 : Nd "is_table" := by decide +kernel
theorem gl14 : AG (defScope (top 14)) ["isinstance", "bool", "int"] := ⟨by decide +kernel⟩
theorem av14 : AF (defScope (top 14)) ["thing"] := ⟨by decide +kernel⟩
def spWholeG : Sp := fun vs H Q _ => ∃ v : V, vs = [v] ∧ Th H v ∧ Q (.bl (isI v)) H
theorem scWhole : FnScope ["thing"] ["thing"] (defScope (top 14)) := ⟨rfl, rfl, rfl, by decide +kernel, rfl, by decide +kernel, by decide +kernel⟩
theorem zam0 (F : Fun K "is_whole" "is_whole" (top 14) f fd) (z_isinstance : mg "isinstance" = none) (z_int : mg "int" = none) (z_bool : mg "bool" = none) : FnOk P w K mg base CX0 (k + 1) f fd ["thing"] spWholeG := by
 have nd := scWhole.nd
 refine F.ok scWhole (fun vs H Q E h => by obtain ⟨i, rfl, _⟩ := h; rfl) (fun cdv A outer s H vs Q E hr h => ?_)
 obtain ⟨v, rfl, t, q⟩ := h
 refine ⟨_, (Pr.h (zaah (zaas (zab2 (zaaf zaa1 (gl14.g 0 rfl) z_isinstance zaai (zaaa (qv av14 0 rfl) (zaaa (zaay (v := .ty "int") (gl14.g 2 rfl) z_int zaj6 rfl zaj7 zaj8) zaab)) zaaj zaak) (zacg (zais (zaaf zaa1 (gl14.g 0 rfl) z_isinstance zaai (zaaa (qv av14 0 rfl) (zaaa (zaay (v := .ty "bool") (gl14.g 1 rfl) z_bool zaix rfl zaiy zaiz) zaab)) zaaj zaak))))))), ?_⟩
 (try dsimp only [cxOf])
 cases t with
 | int i => walk_at "rd"; exact q
 | non => walk_at "rd"; exact q
 | bl b => walk_at "rd"; exact q
 | str x => walk_at "rd"; exact q
def spWhole : Sp := fun vs H Q _ => ∃ i : Int, vs = [.int i] ∧ Q (.bl true) H
theorem av15 : AF (defScope (top 15)) ["thing", "bound"] := ⟨by decide +kernel⟩
theorem gl15 : AG (defScope (top 15)) ["is_whole"] := ⟨by decide +kernel⟩
def spBelowG : Sp := fun vs H Q _ => ∃ (v : V) (b : Int), vs = [v, .int b] ∧ Th H v ∧ Q (.bl (belB v b)) H
theorem scBelow : FnScope ["thing", "bound"] ["thing", "bound"] (defScope (top 15)) := ⟨rfl, rfl, rfl, by decide +kernel, rfl, by decide +kernel, by decide +kernel⟩
theorem zam1 (F : Fun K "is_below" "is_below" (top 15) f fd) (Dis_whole : DefOk P w K mg base CX0 k "is_whole" ["thing"] spWholeG) : FnOk P w K mg base CX0 (k + 1) f fd ["thing", "bound"] spBelowG := by
 have nd := scBelow.nd
 refine F.ok scBelow (fun vs H Q E h => by obtain ⟨v, b, rfl, _⟩ := h; rfl) (fun cdv A outer s H vs Q E hr h => ?_)
 obtain ⟨v, b, rfl, t, q⟩ := h
 refine ⟨_, (Pr.h (zaah (zaas (zab2 (zaam Dis_whole hr (gl15.g 0 rfl) pass0 (zaaa (qv av15 0 rfl) zaab zaac) zafi) (zacg (zal1 zavc zao5 zaae (qv av15 0 rfl) (qv av15 1 rfl))))))), ?_⟩
 (try dsimp only [cxOf])
 refine ⟨_, rfl, _, rfl, t, ?_⟩
 cases t with
 | int i =>
  walk_at "rd"
  refine ite2 (fun h0 => ?_) (fun h0 => ?_)
  ·walk_at "rd"
   have h0 : 0 ≤ i := by simpa using h0
   have e : belB (.int i) b = decide (i < b) := by show (decide (0 ≤ i) && decide (i < b)) = _; rw [decide_eq_true h0, Bool.true_and]
   rw [e] at q
   exact q
  ·have h0 : ¬ 0 ≤ i := by simpa using h0
   have e : belB (.int i) b = false := by show (decide (0 ≤ i) && decide (i < b)) = _; rw [decide_eq_false h0, Bool.false_and]
   rw [e] at q
   walk_at "rd"
   all_goals first | exact q | (rw [decide_eq_false h0]; exact q)
 | non => walk_at "rd"; exact q
 | bl b => walk_at "rd"; exact q
 | str x => walk_at "rd"; exact q
def spBelow : Sp := fun vs H Q _ => ∃ i b : Int, vs = [.int i, .int b] ∧ 0 ≤ i ∧ i < b ∧ Q (.bl true) H
theorem gl16 : AG (defScope (top 16)) ["tuple", "list", "isinstance"] := ⟨by decide +kernel⟩
theorem av16 : AF (defScope (top 16)) ["thing"] := ⟨by decide +kernel⟩
def spListed : Sp := fun vs H Q _ => ∃ (kd : SK) (a : Addr) (xs : List V), vs = [.ref a] ∧ SqX kd H a xs ∧ ∀ H', Ch [] H H' → Q (.bl true) H'
theorem scListed : FnScope ["thing"] ["thing"] (defScope (top 16)) := ⟨rfl, rfl, rfl, by decide +kernel, rfl, by decide +kernel, by decide +kernel⟩
theorem zam2 (F : Fun K "is_listed" "is_listed" (top 16) f fd) (z_isinstance : mg "isinstance" = none) (z_list : mg "list" = none) (z_tuple : mg "tuple" = none) : FnOk P w K mg base CX0 (k + 1) f fd ["thing"] spListed := by
 have nd := scListed.nd
 refine F.ok scListed (fun vs H Q E h => by obtain ⟨kd, a, xs, rfl, _⟩ := h; rfl) (fun cdv A outer s H vs Q E hr h => ?_)
 obtain ⟨kd, a, xs, rfl, hx, q⟩ := h
 refine ⟨_, (Pr.h (zaah (zaas (zaaf zamc (gl16.g 2 rfl) z_isinstance zaai (zaaa (qv av16 0 rfl) (zaaa (zach (zaaa (zaay (v := .ty "list") (gl16.g 1 rfl) z_list zacu rfl zacv zacw) (zaaa (zaay (v := .ty "tuple") (gl16.g 0 rfl) z_tuple zabw rfl zabx zaby) zaab zaac) zaac)) zaab)) zaaj zaak)))), ?_⟩
 (try dsimp only [cxOf])
 cases kd with
 | list =>
  have hx : H a = some (.lst xs) := hx
  walk_at "rd"
  exact q _ (Ch.new (by assumption) _)
 | tuple =>
  have hx : H a = some (.tup xs) := hx
  walk_at "rd"
  exact q _ (Ch.new (by assumption) _)
theorem gl17 : AG (defScope (top 17)) ["isinstance", "str", "len", "tuple", "is_below"] := ⟨by decide +kernel⟩
theorem av17 : AF (defScope (top 17)) ["thing", "counts"] := ⟨by decide +kernel⟩
def spPlaceG : Sp := fun vs H Q _ => ∃ (p cd : Addr) (a c : Nat) (xs : List V), vs = [.ref p, .ref cd] ∧ PgAt H xs p ∧ H cd = some (.dK (cntK a c)) ∧ Q (.bl (plB a c xs)) H
theorem scPlace : FnScope ["thing", "counts"] ["thing", "counts"] (defScope (top 17)) := ⟨rfl, rfl, rfl, by decide +kernel, rfl, by decide +kernel, by decide +kernel⟩
theorem zam3 (F : Fun K "is_place" "is_place" (top 17) f fd) (Dis_below : DefOk P w K mg base CX0 k "is_below" ["thing", "bound"] spBelowG) (z_isinstance : mg "isinstance" = none) (z_tuple : mg "tuple" = none) (z_str : mg "str" = none) (z_len : mg "len" = none) : FnOk P w K mg base CX0 (k + 1) f fd ["thing", "counts"] spPlaceG := by
 have nd := scPlace.nd
 refine F.ok scPlace (fun vs H Q E h => by obtain ⟨p, cd, a, c, x, rfl, _⟩ := h; rfl) (fun cdv A outer s H vs Q E hr h => ?_)
 obtain ⟨p, cd, a, c, xs, rfl, ⟨hp, px⟩, hc, q⟩ := h
 have hu := zagk hr
 refine ⟨_, (Pr.h (zaad (zaa5 (zab7 (zab8 (zabn (zaa6 (zaaf zaa1 (gl17.g 0 rfl) z_isinstance zaai (zaaa (qv av17 0 rfl) (zaaa (zaay (v := .ty "tuple") (gl17.g 3 rfl) z_tuple zabw rfl zabx zaby) zaab)) zaaj zaak))) (zab8 (zaat zadr (zaaf zaan (gl17.g 2 rfl) z_len PySem.boot_len (zaaa (qv av17 0 rfl) zaab zaac) zabc zabd) zaae (nomark _)) (zab3 (zabn (zaa6 (zaaf zaa1 (gl17.g 0 rfl) z_isinstance zaai (zaaa (zaar zaa2 (qv av17 0 rfl) zaae (fun _ _ => rfl)) (zaaa (zaay (v := .ty "str") (gl17.g 1 rfl) z_str zaib rfl zaic zaid) zaab)) zaaj zaak))))))) (zaah (zaas zac0)) zaav) (zaah (zaas (zab2 (zar8 hu (zaar zaa2 (qv av17 0 rfl) zaae (fun _ _ => rfl)) (qv av17 1 rfl)) (zacg (zaam Dis_below hr (gl17.g 4 rfl) pass0 (zaaa (zaar zaa2 (qv av17 0 rfl) zaae (fun _ _ => rfl)) (zaaa (zabi hu (qv av17 1 rfl) (zaar zaa2 (qv av17 0 rfl) zaae (fun _ _ => rfl)) (fun _ _ => rfl)) zaab zaau) zaau) zaco))))))), ?_⟩
 (try dsimp only [cxOf])
 rcases px with hx | ⟨w, n, rfl⟩
 ·rw [zasa hx] at q
  walk_at "rd"
  refine ite2 (fun _ => ?_) (fun h2 => absurd (zamz h2) hx)
  walk_at "rd"
  exact q
 ·have q : Q (.bl (inB (valV (cntK a c) (.inr w)) n)) H := q
  cases cv : valV (cntK a c) (.inr w) with
  | none =>
   rw [cv] at q
   walk_at "rd"
   exact q
  | some v =>
   obtain ⟨m, rfl⟩ := zasb cv
   rw [cv] at q
   have t : Th H (.int n) := .int n
   walk_at "rd"
   exact q
theorem gl22 : AG (defScope (top 22)) ["len", "is_listed", "isinstance", "tuple", "all", "is_below"] := ⟨by decide +kernel⟩
theorem av22 : AF (defScope (top 22)) ["thing", "counts"] := ⟨by decide +kernel⟩
def zagv : Scope := { kind := PySem.ScopeKind.function, names := [ (PySem.Str.ofString ".0", PySem.NameKind.local), (PySem.Str.ofString "leaf", PySem.NameKind.local), (PySem.Str.ofString "is_place", PySem.NameKind.globalImplicit), (PySem.Str.ofString "counts", PySem.NameKind.free)], isGenerator := false, isCoroutine := false, more := [] : PySem.Scope }
theorem zam4 : CompOk zagv (defScope (top 22)) (["leaf"] : List Str) (["thing", "counts"] : List Str) [1] (["leaf", "counts"] : List Str) := compOk rfl (by decide +kernel) (by decide +kernel) (by decide +kernel) (by decide +kernel) rfl (by decide +kernel)
theorem zam5 : AK (relab zagv (defScope (top 22))) ["leaf"] := ⟨by decide +kernel⟩
theorem zasc : AG (relab zagv (defScope (top 22))) ["is_place"] := ⟨by decide +kernel⟩
theorem zam6 : AV (relab zagv (defScope (top 22))) ["leaf", "counts"] := ⟨by decide +kernel⟩
def spTableG : Sp := fun vs H Q _ => ∃ (kd : SK) (p cd : Addr) (a c : Nat) (t : TG), vs = [.ref p, .ref cd] ∧ TgAt kd H t p ∧ H cd = some (.dK (cntK a c)) ∧ ∀ H', Ch [] H H' → Q (.bl (tgB a c t)) H'
theorem scTable : FnScope ["thing", "counts"] ["thing", "counts"] (defScope (top 22)) := ⟨rfl, rfl, rfl, by decide +kernel, rfl, by decide +kernel, by decide +kernel⟩
theorem zam7 (F : Fun K "is_table" "is_table" (top 22) f fd) (Dis_below : DefOk P w K mg base CX0 k "is_below" ["thing", "bound"] spBelowG) (Dis_listed : DefOk P w K mg base CX0 k "is_listed" ["thing"] spListed) (Dis_place : DefOk P w K mg base CX0 k "is_place" ["thing", "counts"] spPlaceG) (z_isinstance : mg "isinstance" = none) (z_tuple : mg "tuple" = none) (z_all : mg "all" = none) (z_len : mg "len" = none) : FnOk P w K mg base CX0 (k + 1) f fd ["thing", "counts"] spTableG := by
 have nd := scTable.nd
 refine F.ok scTable (fun vs H Q E h => by obtain ⟨kd, p, cd, a, c, t, rfl, _⟩ := h; rfl) (fun cdv A outer s H vs Q E hr h => ?_)
 obtain ⟨kd, p, cd, a, c, t, rfl, tg, hc, q⟩ := h
 have hu := zagk hr
 refine ⟨_, (Pr.h (zaad (zaa5 (zab7 (zab8 (zabn (zaa6 (zaaf zaa1 (gl22.g 2 rfl) z_isinstance zaai (zaaa (qv av22 0 rfl) (zaaa (zaay (v := .ty "tuple") (gl22.g 3 rfl) z_tuple zabw rfl zabx zaby) zaab)) zaaj zaak))) (zab8 (zaat zadr (zaaf zaan (gl22.g 0 rfl) z_len PySem.boot_len (zaaa (qv av22 0 rfl) zaab zaac) zabc zabd) zaae (nomark _)) (zab8 (zabn (zaa6 (zaam Dis_listed hr (gl22.g 1 rfl) pass0 (zaaa (zaar zaa2 (qv av22 0 rfl) zaae (fun _ _ => rfl)) zaab zaau) zacr))) (zab3 (zaat zakf (zaaf zaan (gl22.g 0 rfl) z_len PySem.boot_len (zaaa (zaar zaa2 (qv av22 0 rfl) zaae (fun _ _ => rfl)) zaab zaau) zabc zabd) zaae (nomark _))))))) (zaah (zaas zac0)) zaav) (zaah (zaas (zab2 (zaam Dis_below hr (gl22.g 5 rfl) pass0 (zaaa (zaar zaa2 (qv av22 0 rfl) zaae (fun _ _ => rfl)) (zaaa (zaaz zajq zaae (zaaz zajq zaae (zaaf zaan (gl22.g 0 rfl) z_len PySem.boot_len (zaaa (zaar zaa2 (qv av22 0 rfl) zaae (fun _ _ => rfl)) zaab zaau) zabc zabd))) zaab zacb) zaau) zaco) (zacg (zaaf (zac9 rfl) (gl22.g 4 rfl) z_all zafj (zaaa (zaa7 rfl zam4 (zaej K rfl kd (zaar zaa2 (qv av22 0 rfl) zaae (fun _ _ => rfl))) (fun _ _ _ _ _ => (zaap (i := 0) zam4.nd rfl (Or.inl (zam5.k 0 rfl)) (Or.inr (zam5.k 0 rfl)))) (fun _ _ _ _ _ => zaa9) (fun _ _ _ _ _ => (zaam Dis_place hr (zasc.g 0 rfl) pass0 (zaaa (qw zam6 0 rfl) (zaaa (qw zam6 1 rfl) zaab zaac) zaac) zafk))) zaab zaa0) zafl zafm))))))), ?_⟩
 (try dsimp only [cxOf])
 cases t with
 | odd =>
  obtain ⟨ys, hp, hx⟩ := tg
  walk_at "rd"
  refine ite2 (fun _ => ?_) (fun h2 => absurd (zamz h2) hx)
  walk_at "rd"
  exact q _ (Ch.refl _ _)
 | tb ls bits =>
  obtain ⟨lp, ps, hp, hs, ws⟩ := tg
  have ll := Paired.length ws
  walk_at "rd"
  rename_i H1 c1
  have hs1 := hs.ch c1
  have hp1 : H1 p = some (.tup [.ref lp, .int bits]) := c1.get hp (by simp)
  have hc1 : H1 cd = some (.dK (cntK a c)) := c1.get hc (by simp)
  have ws1 := zaal (fun _ _ e => PgAt.tu (Tu.same c1) e) ws
  have so : SqL K H1 lp (ps.map V.ref) ∨ SqT K H1 lp (ps.map V.ref) := hs1.or
  refine ⟨so, ?_⟩
  clear hp hs ws
  by_cases l4 : ls.length ≤ 4
  ·walk_at "rd"
   refine ite2 (fun hc => absurd (of_decide_eq_true hc) (by rw [List.length_map]; omega)) (fun _ => ?_)
   have lm : (ps.map V.ref).length = ls.length := by rw [List.length_map, ll]
   have p0 : (0 : Int) ≤ 1 * 2 ^ ((ps.map V.ref).length : Int).toNat := by rw [Int.one_mul]; exact Int.le_of_lt (Int.pow_pos (by decide))
   have p1 : (1 : Int) * 2 ^ ((ps.map V.ref).length : Int).toNat ≤ 16 := by
    rw [Int.toNat_natCast]
    have e5 : (ps.map V.ref).length = 0 ∨ (ps.map V.ref).length = 1 ∨ (ps.map V.ref).length = 2 ∨ (ps.map V.ref).length = 3 ∨ (ps.map V.ref).length = 4 := by omega
    rcases e5 with e | e | e | e | e <;> rw [e] <;> decide
   have tb : Th H1 (.int bits) := .int bits
   have eq : tgB a c (.tb ls bits) = (belB (.int bits) (1 * 2 ^ (1 * 2 ^ ((ps.map V.ref).length : Int).toNat : Int).toNat) && ls.all (plB a c)) := by
    show (decide _ && _) = _
    rw [decide_eq_true l4, Bool.true_and, lm]
    rfl
   rw [eq] at q
   clear eq
   walk_at "rd"
   refine ite2 (fun hb => ?_) (fun hb => ?_)
   ·rw [hb, Bool.true_and] at q
    clear hb p0 p1 tb
    walk_at "rd"
    refine ⟨⟨_, hs1.sq⟩, ?_⟩
    refine zaek (ps.map V.ref) (fun i ys σ H' => H' = H1 ∧ ys = ((ls.take i).map (plB a c)).map V.bl ∧ ∃ u, σ = [u, some (.ref cd)]) (by rw [sizeLine_eq]; omega) ⟨rfl, rfl, _, rfl⟩ ?_ ?_ ?_
    ·rintro i ys σ H' hi ⟨rfl, rfl, _⟩
     exact ⟨by simp; omega, hs1.sq⟩
    ·rintro i ys σ H' z hz ⟨rfl, rfl, u, rfl⟩
     obtain ⟨pl, x, rfl, es, e2⟩ := zaba ws1 i z hz
     walk_at "rd"
     refine ⟨?_, _, rfl⟩
     rw [List.take_add_one, es]; simp
    ·rintro ys σ H' ⟨rfl, rfl, _⟩
     rw [lm, List.take_length]
     intro D hD
     refine ⟨D, ls.map (plB a c), rfl, by rw [zaag], ?_⟩
     rw [List.all_map]
     exact q _ (c1.trans (Ch.new hD _))
   ·rw [Bool.eq_false_iff.mpr hb, Bool.false_and] at q
    exact q _ c1
  ·have e0 : tgB a c (.tb ls bits) = false := by show (decide _ && _) = _; rw [decide_eq_false l4, Bool.false_and]
   rw [e0] at q
   walk_at "rd"
   refine ite2 (fun _ => ?_) (fun hc => absurd (by simp; omega) hc)
   walk_at "rd"
   exact q _ c1
theorem gl26 : AG (defScope (top 26)) ["is_table", "len", "isinstance", "tuple", "is_below"] := ⟨by decide +kernel⟩
theorem av26 : AF (defScope (top 26)) ["thing", "counts"] := ⟨by decide +kernel⟩
def spBlockG : Sp := fun vs H Q _ => ∃ (kd : SK) (p cd : Addr) (a c : Nat) (t : BG), vs = [.ref p, .ref cd] ∧ BgAt kd H t p ∧ H cd = some (.dK (cntK a c)) ∧ ∀ H', Ch [] H H' → Q (.bl (bkB a c t)) H'
theorem scBlock : FnScope ["thing", "counts"] ["thing", "counts"] (defScope (top 26)) := ⟨rfl, rfl, rfl, by decide +kernel, rfl, by decide +kernel, by decide +kernel⟩
theorem zam8 (F : Fun K "is_block" "is_block" (top 26) f fd) (Dis_below : DefOk P w K mg base CX0 k "is_below" ["thing", "bound"] spBelowG) (Dis_table : DefOk P w K mg base CX0 k "is_table" ["thing", "counts"] spTableG) (z_isinstance : mg "isinstance" = none) (z_tuple : mg "tuple" = none) (z_len : mg "len" = none) : FnOk P w K mg base CX0 (k + 1) f fd ["thing", "counts"] spBlockG := by
 have nd := scBlock.nd
 refine F.ok scBlock (fun vs H Q E h => by obtain ⟨kd, p, cd, a, c, t, rfl, _⟩ := h; rfl) (fun cdv A outer s H vs Q E hr h => ?_)
 obtain ⟨kd, p, cd, a, c, t, rfl, bg, hc, q⟩ := h
 refine ⟨_, (Pr.h (zaad (zaa5 (zab7 (zab8 (zabn (zaa6 (zaaf zaa1 (gl26.g 2 rfl) z_isinstance zaai (zaaa (qv av26 0 rfl) (zaaa (zaay (v := .ty "tuple") (gl26.g 3 rfl) z_tuple zabw rfl zabx zaby) zaab)) zaaj zaak))) (zab8 (zaat zadr (zaaf zaan (gl26.g 1 rfl) z_len PySem.boot_len (zaaa (qv av26 0 rfl) zaab zaac) zabc zabd) zaae (nomark _)) (zab3 (zabn (zaa6 (zaam Dis_table hr (gl26.g 0 rfl) pass0 (zaaa (zal2 zat1 (qv av26 0 rfl) zapo (zapp zaae)) (zaaa (qv av26 1 rfl) zaab zaac) zaau) zai0))))))) (zaah (zaas zac0)) zaav) (zaah (zaas (zab2 (zaam Dis_below hr (gl26.g 4 rfl) pass0 (zaaa (zaar zaa2 (qv av26 0 rfl) zaae (fun _ _ => rfl)) (zaaa zaae zaab zaaq) zaau) zaco) (zacg (zaam Dis_below hr (gl26.g 4 rfl) pass0 (zaaa (zaar zaa2 (qv av26 0 rfl) zaae (fun _ _ => rfl)) (zaaa (zaaz zaeq (zaar zaa2 (qv av26 0 rfl) zaae (fun _ _ => rfl)) zaae) zaab zacb) zaau) zaco))))))), ?_⟩
 (try dsimp only [cxOf])
 cases t with
 | odd =>
  obtain ⟨ys, hp, hx⟩ := bg
  walk_at "rd"
  refine ite2 (fun _ => ?_) (fun h2 => absurd (zap4 h2) hx)
  walk_at "rd"
  exact q _ (Ch.refl _ _)
 | bk ls bits kept first =>
  obtain ⟨lp, ps, hp, hs, ws⟩ := bg
  have q : ∀ H', Ch [] H H' → Q (.bl (tgB a c (.tb ls bits) && (belB (.int kept) 2 && belB (.int first) (kept + 1)))) H' := q
  walk_at "rd"
  refine ⟨(show ¬((0 : Nat) = 0 ∧ (2 : Nat) = 4) from by omega), fun T hT => ?_⟩
  walk_at "rd"
  have cT : Ch [] H (upd H T (.tup [.ref lp, .int bits])) := Ch.new hT _
  have tg : TgAt kd (upd H T (.tup [.ref lp, .int bits])) (.tb ls bits) T := ⟨lp, ps, zaag, hs.ch cT, zaal (fun _ _ e => PgAt.tu (Tu.same cT) e) ws⟩
  refine ⟨tg, zabq hT hc, fun H2 c2 => ?_⟩
  have c02 : Ch [] H H2 := cT.trans c2
  have hp2 := c02.get hp (by simp)
  have tk : Th H2 (.int kept) := .int _
  have tf : Th H2 (.int first) := .int _
  clear cT c2 tg hs ws
  walk_at "rd"
  refine ite2 (fun hb => ?_) (fun hb => ?_)
  ·rw [show tgB a c (.tb ls bits) = false from by simpa using hb] at q
   walk_at "rd"
   exact q _ c02
  ·rw [show tgB a c (.tb ls bits) = true from by simpa using hb, Bool.true_and] at q
   walk_at "rd"
   refine ite2 (fun hk => ?_) (fun hk => ?_)
   ·rw [hk, Bool.true_and] at q
    walk_at "rd"
    exact q _ c02
   ·rw [Bool.eq_false_iff.mpr hk, Bool.false_and] at q
    exact q _ c02
end
end

section
def nV (a : Nat) : V := .int (a : Int)
structure Bk where
 ss : List Src
 bits : Int
 kept : Int
 first : Int
def sg (s : Src) : List V := [.str (wd s.1), .int (s.2 : Int)]
def Bk.g (b : Bk) : BG := .bk (b.ss.map sg) b.bits b.kept b.first
structure Bk.ok (ins many : Nat) (b : Bk) : Prop where
 s4 : b.ss.length ≤ 4
 so : ∀ s ∈ b.ss, s.2 < lim ins many s.1
 b0 : 0 ≤ b.bits
 b1 : b.bits < room b.ss.length
 k : b.kept = 0 ∨ b.kept = 1
 f0 : 0 ≤ b.first
 f1 : b.first ≤ b.kept
abbrev BkAt (kd : SK) (H : Hp) (b : Bk) (p : Addr) : Prop := BgAt kd H b.g p
abbrev BsAt (kd : SK) (H : Hp) : List Bk → List Addr → Prop := Paired (BkAt kd H)
theorem zap5 {kd : SK} {H H' : Hp} (c : Ch [] H H') {bs : List Bk} {ps : List Addr} (s : BsAt kd H bs ps) : BsAt kd H' bs ps := zaal (fun _ _ e => BgAt.ch c e) s
theorem zaie {kd : SK} {H : Hp} : ∀ {bs : List Bk} {ps : List Addr}, BsAt kd H bs ps → ∀ (i : Nat), i < bs.length → ∃ p b, (ps.map V.ref)[i]? = some (.ref p) ∧ bs[i]? = some b ∧ BkAt kd H b p
 | _, _, .nil, i, h => by simp at h
 | b :: bs, p :: ps, .cons a t, 0, _ => ⟨p, b, rfl, rfl, a⟩
 | b :: bs, p :: ps, .cons a t, i + 1, h => by
  obtain ⟨p', b', e1, e2, e3⟩ := zaie t i (by simpa using h)
  exact ⟨p', b', by simpa using e1, by simpa using e2, e3⟩
theorem zaf6 {kd : SK} {H : Hp} {bs : List Bk} {ps : List Addr} (s : BsAt kd H bs ps) (i : Nat) (h : i < bs.length) : ∃ p b, atI (ps.map V.ref) (i : Int) = some (.ref p) ∧ bs[i]? = some b ∧ BkAt kd H b p := by
 obtain ⟨p, b, e1, e2, e3⟩ := zaie s i h
 exact ⟨p, b, zaec e1, e2, e3⟩
def loB (bs : List Bk) (n : Nat) : Bool := match bs[n]? with
 | some b => decide (b.kept = 0)
 | none => false
def lsOf (bs : List Bk) (n : Nat) : List Nat := match bs[n]? with
 | some b => (b.ss.filter fun s => s.1 && loB bs s.2).map (·.2)
 | none => []
def looseOf (bs : List Bk) : List Nat := (List.range bs.length).filter (loB bs)
theorem zadm {bs : List Bk} {n : Nat} {b : Bk} (h : bs[n]? = some b) : loB bs n = decide (b.kept = 0) := by unfold loB; rw [h]
theorem zaem {bs : List Bk} {n : Nat} {b : Bk} (h : bs[n]? = some b) : lsOf bs n = (b.ss.filter fun s => s.1 && loB bs s.2).map (·.2) := by unfold lsOf; rw [h]
section
variable {P : Program} {w : World} {K : PySem.W.Frag} {mg : Str → Option Value} {base : Heap} {f : Addr} {fd : FuncData} {k : Nat}
theorem zacx : bootBuiltins "dict" = some (.type "dict") := by decide +kernel
theorem zada : Nd "loose_sources" := by decide +kernel
theorem zacy : ("dict" : Str) ≠ "__name__" := by decide +kernel
theorem zacz : Nd "dict" := by decide +kernel
theorem zadn : Nd "loose_order" := by decide +kernel
theorem av27 : AF (defScope (top 27)) ["blocks", "number"] := ⟨by decide +kernel⟩
def zai1 : Scope := { kind := PySem.ScopeKind.function, names := [ (PySem.Str.ofString ".0", PySem.NameKind.local), (PySem.Str.ofString "word", PySem.NameKind.local), (PySem.Str.ofString "other", PySem.NameKind.local), (PySem.Str.ofString "blocks", PySem.NameKind.free)], isGenerator := false, isCoroutine := false, more := [] : PySem.Scope }
theorem zai2 : CompOk zai1 (defScope (top 27)) (["word", "other"] : List Str) (["blocks", "number"] : List Str) [0] (["word", "other", "blocks"] : List Str) := compOk rfl (by decide +kernel) (by decide +kernel) (by decide +kernel) (by decide +kernel) rfl (by decide +kernel)
theorem zagw : AK (relab zai1 (defScope (top 27))) ["word", "other"] := ⟨by decide +kernel⟩
theorem zagx : AV (relab zai1 (defScope (top 27))) ["word", "other", "blocks"] := ⟨by decide +kernel⟩
def spLS : Sp := fun vs H Q _ => ∃ (kd kd2 : SK) (bl : Addr) (n ins : Nat) (bs : List Bk) (ps : List Addr), vs = [.ref bl, .int (n : Int)] ∧ SqX kd H bl (ps.map V.ref) ∧ BsAt kd2 H bs ps ∧ (∀ b ∈ bs, b.ok ins bs.length) ∧ n < bs.length ∧
 ∀ p H', Ch [] H H' → H p = none → H' p = some (.lst ((lsOf bs n).map nV)) → Q (.ref p) H'
theorem scLS : FnScope ["blocks", "number"] ["blocks", "number"] (defScope (top 27)) := ⟨rfl, rfl, rfl, by decide +kernel, rfl, by decide +kernel, by decide +kernel⟩
theorem zavg (F : Fun K "loose_sources" "loose_sources" (top 27) f fd) : FnOk P w K mg base CX0 (k + 1) f fd ["blocks", "number"] spLS := by
 have nd := scLS.nd
 refine F.ok scLS (fun vs H Q E h => by obtain ⟨kd, kd2, bl, n, ins, bs, ps, rfl, _⟩ := h; rfl) (fun cdv A outer s H vs Q E hr h => ?_)
 obtain ⟨kd, kd2, bl, n, ins, bs, ps, rfl, hb, bt, ok, hn, q⟩ := h
 obtain ⟨p, b, e1, e2, ⟨lp, sps, hp, hs, ws⟩⟩ := zaf6 bt n hn
 have okb := ok b (List.mem_of_getElem? e2)
 have ls := Paired.length ws
 rw [List.length_map] at ls
 have s4 := okb.s4
 refine ⟨_, (Pr.h (zaah (zaas (zaa7 rfl zai2 (zaej K rfl kd2 (zaar zaa2 (zaar (zamm K rfl) (qv av27 0 rfl) (qv av27 1 rfl) (fun _ _ => rfl)) zaae (fun _ _ => rfl))) (fun _ _ _ _ _ => (zack K 2 rfl rfl (zaa3 (zaap (i := 0) zai2.nd rfl (Or.inl (zagw.k 0 rfl)) (Or.inr (zagw.k 0 rfl))) (zaa3 (zaap (i := 1) zai2.nd rfl (Or.inl (zagw.k 1 rfl)) (Or.inr (zagw.k 1 rfl))) zacc)))) (fun _ _ _ _ _ => (zacq (zab7 (zafb (zaat zacs (qw zagx 0 rfl) zabm (nomark _)) (zae1 (zaat zacs (zaar (zacj K rfl) (zaar (zamm K rfl) (qw zagx 2 rfl) (qw zagx 1 rfl) (fun _ _ => rfl)) zaae (fun _ _ => rfl)) zaae (nomark _))))))) (fun _ _ _ _ _ => (qw zagx 1 rfl)))))), ?_⟩
 (try dsimp only [cxOf])
 have so0 : SqL K H bl (ps.map V.ref) ∨ SqT K H bl (ps.map V.ref) := hb.or
 walk_at "rd"
 refine ⟨⟨_, hs.sq⟩, ?_⟩
 refine zaek (sps.map V.ref) (fun i ys σ H' => H' = H ∧ ys = (((b.ss.take i).filter fun s => s.1 && loB bs s.2).map (·.2)).map nV ∧ ∃ u v, σ = [u, v, some (.ref bl)]) (by rw [sizeLine_eq, List.length_map]; omega) ⟨rfl, rfl, _, _, rfl⟩ ?_ ?_ ?_
 ·rintro i ys σ H' hi ⟨rfl, rfl, _⟩
  refine ⟨?_, hs.sq⟩
  rw [List.length_map, List.length_map]
  exact Nat.le_trans (List.length_filter_le _ _) (by rw [List.length_take]; omega)
 ·rintro i ys σ H' z hz ⟨rfl, rfl, u, v, rfl⟩
  obtain ⟨pl, x, rfl, g1, ⟨g2, _⟩⟩ := zaba ws i z hz
  rw [List.getElem?_map] at g1
  obtain ⟨sr, es, rfl⟩ := Option.map_eq_some_iff.mp g1
  have so := okb.so sr (List.mem_of_getElem? es)
  have et : b.ss.take (i + 1) = b.ss.take i ++ [sr] := by rw [List.take_add_one, es]; rfl
  rw [et, List.filter_append, List.map_append, List.map_append]
  obtain ⟨sb, sn⟩ := sr
  cases sb with
  | false =>
   have g2 : H' pl = some (.tup [.str "in", .int (sn : Int)]) := g2
   walk_at "rd"
   exact ⟨by simp, _, _, rfl⟩
  | true =>
   have g2 : H' pl = some (.tup [.str "block", .int (sn : Int)]) := g2
   have so : sn < bs.length := so
   obtain ⟨p2, b2, k1, k2, ⟨_, _, k3, _⟩⟩ := zaf6 bt sn so
   have lo := zadm k2
   walk_at "rd"
   refine ite2 (fun hc => ?_) (fun hc => ?_)
   ·have hk : b2.kept = 0 := by simpa using hc
    rw [hk] at lo
    exact ⟨_, rfl, rfl, by simp [lo]; rfl, _, _, rfl⟩
   ·have hk : b2.kept ≠ 0 := by simpa using hc
    exact ⟨rfl, by simp [lo, hk], _, _, rfl⟩
 ·rintro ys σ H' ⟨rfl, rfl, _⟩
  intro D hD
  refine q D _ (Ch.new hD _) hD ?_
  rw [zaag, List.length_map, ← ls, List.take_length, zaem e2]
end
local macro_rules | `(tactic| walk_at "user") => `(tactic| first
 | (apply zabv; (focus walk_at "get"); (focus with_reducible assumption))
 | (apply dputI; (focus walk_at "get"); (focus with_reducible assumption)))
def wD (l : List Nat) (g : Nat → V) : List (Key × V) := l.map fun (n : Nat) => ((Sum.inl (n : Int) : Key), g n)
theorem zado {l : List Nat} {g : Nat → V} {n : Nat} (h : n ∈ l) : valV (wD l g) (.inl (n : Int)) = some (g n) := by
 induction l with
 | nil => simp at h
 | cons m l ih =>
  by_cases e : m = n
  ·subst e; exact zabr (κ := Key) rfl
  ·show valV (((Sum.inl (m : Int) : Key), g m) :: wD l g) _ = _
   have e' : ¬ ((Sum.inl (m : Int) : Key) = Sum.inl (n : Int)) := fun z => e (by injection z with z; omega)
   rw [zabo e']
   exact ih (by simpa [Ne.symm e] using h)
theorem zam9 {l : List Nat} {g : Nat → V} {n : Nat} (v : V) (h : n ∈ l) : putK (wD l g) (.inl (n : Int)) v = wD l (fun m => if m = n then v else g m) := by
 unfold putK
 rw [zadt, zado h, if_pos (show (some (g n)).isSome = true from rfl)]
 unfold wD
 rw [List.map_map]
 refine List.map_congr_left fun m _ => ?_
 by_cases e : m = n
 ·subst e; simp
 ·have e' : ¬ ((Sum.inl (m : Int) : Key) = Sum.inl (n : Int)) := fun z => e (by injection z with z; omega)
  simp only [Function.comp, if_neg e', if_neg e]
theorem zadx {l : List Nat} {g g' : Nat → V} (h : ∀ n ∈ l, g n = g' n) : wD l g = wD l g' := List.map_congr_left fun n hn => by rw [h n hn]
theorem zafn {l : List Nat} {g : Nat → V} (h : l.Nodup) : ((wD l g).map (·.1)).Nodup := by
 unfold wD
 rw [List.map_map]
 induction l with
 | nil => simp
 | cons n l ih =>
  obtain ⟨a, b⟩ := List.nodup_cons.mp h
  rw [List.map_cons, List.nodup_cons]
  refine ⟨fun z => ?_, ih b⟩
  obtain ⟨m, hm, e⟩ := List.mem_map.mp z
  have e : (Sum.inl (m : Int) : Key) = Sum.inl (n : Int) := e
  have : m = n := by injection e with e; omega
  exact a (this ▸ hm)
def laD (la : List (Nat × Addr)) : List (Key × V) := la.map fun p => ((Sum.inl (p.1 : Int) : Key), V.ref p.2)
structure Fed (H0 H : Hp) (fd : Addr) (la : List (Nat × Addr)) (F : Nat → List Nat) : Prop where
 at_ : H fd = some (.dK (laD la))
 ls : ∀ p ∈ la, H p.2 = some (.lst ((F p.1).map nV)) ∧ H0 p.2 = none
 n1 : (la.map (·.1)).Nodup
 n2 : (la.map (·.2)).Nodup
theorem Fed.ch {H0 H H' : Hp} {fd : Addr} {la : List (Nat × Addr)} {F : Nat → List Nat} (s : Fed H0 H fd la F) (c : Ch [] H H') : Fed H0 H' fd la F := ⟨c.get s.at_ (by simp), fun p hp => ⟨c.get (s.ls p hp).1 (by simp), (s.ls p hp).2⟩, s.n1, s.n2⟩
theorem Fed.put {H0 H : Hp} {fd q : Addr} {o : HO} {la : List (Nat × Addr)} {F : Nat → List Nat} (s : Fed H0 H fd la F) (h1 : fd ≠ q) (h2 : ∀ p ∈ la, p.2 ≠ q) : Fed H0 (upd H q o) fd la F := ⟨zabg h1 s.at_, fun p hp => ⟨zabg (h2 p hp) (s.ls p hp).1, (s.ls p hp).2⟩, s.n1, s.n2⟩
theorem zana {la : List (Nat × Addr)} (n1 : (la.map (·.1)).Nodup) {p q : Nat × Addr} (hp : p ∈ la) (hq : q ∈ la) (e : p.1 = q.1) : p = q := by
 induction la with
 | nil => simp at hp
 | cons a la ih =>
  rw [List.map_cons, List.nodup_cons] at n1
  rcases List.mem_cons.mp hp with e1 | hp' <;> rcases List.mem_cons.mp hq with e2 | hq'
  ·rw [e1, e2]
  ·exact absurd (List.mem_map.mpr ⟨q, hq', by rw [← e, e1]⟩) n1.1
  ·exact absurd (List.mem_map.mpr ⟨p, hp', by rw [e, e2]⟩) n1.1
  ·exact ih n1.2 hp' hq'
theorem zanb {la : List (Nat × Addr)} (n2 : (la.map (·.2)).Nodup) {p q : Nat × Addr} (hp : p ∈ la) (hq : q ∈ la) (e : p.2 = q.2) : p = q := by
 induction la with
 | nil => simp at hp
 | cons a la ih =>
  rw [List.map_cons, List.nodup_cons] at n2
  rcases List.mem_cons.mp hp with e1 | hp' <;> rcases List.mem_cons.mp hq with e2 | hq'
  ·rw [e1, e2]
  ·exact absurd (List.mem_map.mpr ⟨q, hq', by rw [← e, e1]⟩) n2.1
  ·exact absurd (List.mem_map.mpr ⟨p, hp', by rw [e, e2]⟩) n2.1
  ·exact ih n2.2 hp' hq'
theorem Fed.add {H0 H : Hp} {fd : Addr} {la : List (Nat × Addr)} {F : Nat → List Nat} {p : Nat × Addr} {x : Nat} (s : Fed H0 H fd la F) (hp : p ∈ la) : Fed H0 (upd H p.2 (.lst ((F p.1).map nV ++ [nV x]))) fd la (fun m => if m = p.1 then F m ++ [x] else F m) := by
 refine ⟨zabg (zabl s.at_ (s.ls p hp).1 (by intro z; cases z)) s.at_, fun r hr => ⟨?_, (s.ls r hr).2⟩, s.n1, s.n2⟩
 by_cases e : r.1 = p.1
 ·have : r = p := zana s.n1 hr hp e
  subst this
  rw [zaag, if_pos rfl, List.map_append]
  rfl
 ·have ne : r.2 ≠ p.2 := fun z => e (by rw [zanb s.n2 hr hp z])
  rw [zaaw ne, if_neg e]
  exact (s.ls r hr).1
theorem zasd {la : List (Nat × Addr)} (n1 : (la.map (·.1)).Nodup) {p : Nat × Addr} (hp : p ∈ la) : valV (laD la) (.inl (p.1 : Int)) = some (.ref p.2) := by
 induction la with
 | nil => simp at hp
 | cons q la ih =>
  rw [List.map_cons, List.nodup_cons] at n1
  rcases List.mem_cons.mp hp with rfl | hp
  ·exact zabr (κ := Key) rfl
  ·have ne : q.1 ≠ p.1 := fun e => n1.1 (e ▸ List.mem_map.mpr ⟨p, hp, rfl⟩)
   show valV (((Sum.inl (q.1 : Int) : Key), V.ref q.2) :: laD la) _ = _
   have e' : ¬ ((Sum.inl (q.1 : Int) : Key) = Sum.inl (p.1 : Int)) := fun z => ne (by injection z with z; omega)
   rw [zabo e']
   exact ih n1.2 hp
theorem Fed.of {H0 H : Hp} {fd : Addr} {la : List (Nat × Addr)} {F : Nat → List Nat} (s : Fed H0 H fd la F) {n : Nat} (hn : n ∈ la.map (·.1)) : ∃ a, valV (laD la) (.inl (n : Int)) = some (.ref a) ∧ (n, a) ∈ la ∧ H a = some (.lst ((F n).map nV)) := by
 obtain ⟨⟨m, a⟩, hp, rfl⟩ := List.mem_map.mp hn
 exact ⟨a, zasd s.n1 hp, hp, (s.ls _ hp).1⟩
abbrev TsAt (H : Hp) : List Addr → List (Key × V) → Prop := Paired (fun t kv => H t = some (.tup [kV kv.1, kv.2]))
theorem zafo {H H' : Hp} (c : Ch [] H H') : ∀ {ts : List Addr} {kvs : List (Key × V)}, TsAt H ts kvs → TsAt H' ts kvs
 | _, _, .nil => .nil
 | _, _, .cons a t => .cons (c.get a (by simp)) (zafo c t)
theorem zaen {H : Hp} {t : Addr} {kv : Key × V} (h : H t = some (.tup [kV kv.1, kv.2])) : ∀ {ts : List Addr} {kvs : List (Key × V)}, TsAt H ts kvs → TsAt H (ts ++ [t]) (kvs ++ [kv])
 | _, _, .nil => .cons h .nil
 | _, _, .cons a t => .cons a (zaen h t)
theorem zak0 {H : Hp} : ∀ {ts : List Addr} {kvs : List (Key × V)}, TsAt H ts kvs → ∀ (i : Nat) (t : Addr) (kv : Key × V), ts[i]? = some t → kvs[i]? = some kv → H t = some (.tup [kV kv.1, kv.2])
 | _, _, .nil, i, t, kv, h, _ => by simp at h
 | t0 :: ts, kv0 :: kvs, .cons a r, 0, t, kv, h1, h2 => by cases h1; cases h2; exact a
 | t0 :: ts, kv0 :: kvs, .cons a r, i + 1, t, kv, h1, h2 => zak0 r i t kv (by simpa using h1) (by simpa using h2)
structure LO (H H' : Hp) (wd fd rd od : Addr) (loose : List Nat) (la : List (Nat × Addr)) (F : Nat → List Nat) (wv : Nat → Int) (ready order : List Nat) : Prop where
 ch : Ch [] H H'
 w : H' wd = some (.dK (wD loose fun n => .int (wv n)))
 f : Fed H H' fd la F
 r : H' rd = some (.lst (ready.map nV))
 o : H' od = some (.lst (order.map nV))
 hw : H wd = none
 hr : H rd = none
 ho : H od = none
 ro : rd ≠ od
 wf : wd ≠ fd
 ra : ∀ p ∈ la, p.2 ≠ rd
 oa : ∀ p ∈ la, p.2 ≠ od
theorem LO.setR {H H' : Hp} {wd fd rd od : Addr} {loose : List Nat} {la : List (Nat × Addr)} {F : Nat → List Nat} {wv : Nat → Int} {ready order : List Nat} (s : LO H H' wd fd rd od loose la F wv ready order) (ready' : List Nat) : LO H (upd H' rd (.lst (ready'.map nV))) wd fd rd od loose la F wv ready' order :=
 ⟨Ch.own s.hr s.ch, zabg (zabl s.w s.r (by intro z; cases z)) s.w, s.f.put (zabl s.f.at_ s.r (by intro z; cases z)) s.ra, zaag, zabg s.ro.symm s.o, s.hw, s.hr, s.ho, s.ro, s.wf, s.ra, s.oa⟩
theorem LO.setO {H H' : Hp} {wd fd rd od : Addr} {loose : List Nat} {la : List (Nat × Addr)} {F : Nat → List Nat} {wv : Nat → Int} {ready order : List Nat} (s : LO H H' wd fd rd od loose la F wv ready order) (order' : List Nat) : LO H (upd H' od (.lst (order'.map nV))) wd fd rd od loose la F wv ready order' :=
 ⟨Ch.own s.ho s.ch, zabg (zabl s.w s.o (by intro z; cases z)) s.w, s.f.put (zabl s.f.at_ s.o (by intro z; cases z)) s.oa, zabg s.ro s.r, zaag, s.hw, s.hr, s.ho, s.ro, s.wf, s.ra, s.oa⟩
theorem LO.setW {H H' : Hp} {wd fd rd od : Addr} {loose : List Nat} {la : List (Nat × Addr)} {F : Nat → List Nat} {wv : Nat → Int} {ready order : List Nat} (s : LO H H' wd fd rd od loose la F wv ready order) {n : Nat} (hn : n ∈ loose) (v : Int) : LO H (upd H' wd (.dK (putK (wD loose fun n => .int (wv n)) (.inl (n : Int)) (.int v)))) wd fd rd od loose la F (fun m => if m = n then v else wv m) ready order :=
 ⟨Ch.own s.hw s.ch, by rw [zaag, zam9 _ hn]; congr 3; funext m; split <;> rfl, s.f.put s.wf.symm fun p hp => zabl (s.f.ls p hp).1 s.w (by intro z; cases z), zabg (zabl s.r s.w (by intro z; cases z)) s.r, zabg (zabl s.o s.w (by intro z; cases z)) s.o, s.hw, s.hr, s.ho, s.ro, s.wf, s.ra, s.oa⟩
theorem LO.congr {H H' : Hp} {wd fd rd od : Addr} {loose : List Nat} {la : List (Nat × Addr)} {F : Nat → List Nat} {wv wv' : Nat → Int} {ready order : List Nat} (s : LO H H' wd fd rd od loose la F wv ready order) (h : ∀ n ∈ loose, wv n = wv' n) : LO H H' wd fd rd od loose la F wv' ready order :=
 ⟨s.ch, by rw [s.w, zadx fun n hn => by rw [h n hn]], s.f, s.r, s.o, s.hw, s.hr, s.ho, s.ro, s.wf, s.ra, s.oa⟩
theorem Fed.rebase {H H0 H' : Hp} {fd : Addr} {la : List (Nat × Addr)} {F : Nat → List Nat} (s : Fed H0 H' fd la F) (c : Ch [] H H0) : Fed H H' fd la F := ⟨s.at_, fun p hp => ⟨(s.ls p hp).1, chFree c (s.ls p hp).2⟩, s.n1, s.n2⟩
structure FC (H0 H' : Hp) (l : List Nat) (ys : List V) : Prop where
 ch : Ch [] H0 H'
 ex : ∃ (ts : List Addr) (la : List (Nat × Addr)), ys = ts.map V.ref ∧ la.map (·.1) = l ∧ TsAt H' ts (laD la) ∧ (∀ p ∈ la, H' p.2 = some (.lst []) ∧ H0 p.2 = none) ∧ (la.map (·.2)).Nodup
structure WC (H0 H' : Hp) (l : List Nat) (g : Nat → V) (ys : List V) : Prop where
 ch : Ch [] H0 H'
 ex : ∃ ts : List Addr, ys = ts.map V.ref ∧ TsAt H' ts (wD l g)
theorem zaqs (ls : Nat → List Nat) (o : Nat) : wt ls [] o = (ls o).length := by unfold wt; simp
theorem zak1 (loose : List Nat) (ls : Nat → List Nat) (nd : loose.Nodup) : Kahn loose ls [] (loose.filter fun n => decide ((ls n).length = 0)) := by
 have wz : ∀ o, wt ls [] o = (ls o).length := zaqs ls
 refine ⟨List.nodup_nil, nd.filter _, by simp, fun o ho => ⟨(List.mem_filter.mp ho).1, by simp⟩, by simp, fun o h1 _ => ?_, fun i x h => by simp at h⟩
 rw [wz, List.mem_filter]
 simp [h1]
theorem zafp (bs : List Bk) : (looseOf bs).Nodup := List.nodup_range.filter _
theorem zady {bs : List Bk} {n : Nat} (h : n ∈ looseOf bs) : n < bs.length := by simpa using (List.mem_filter.mp h).1
theorem zae2 {bs : List Bk} {n s : Nat} (h : s ∈ lsOf bs n) (ins : Nat) (ok : ∀ b ∈ bs, b.ok ins bs.length) : s ∈ looseOf bs := by
 unfold lsOf at h
 split at h
 ·rename_i b e
  obtain ⟨r, hr, rfl⟩ := List.mem_map.mp h
  obtain ⟨h1, h2⟩ := List.mem_filter.mp hr
  have h3 : r.1 = true ∧ loB bs r.2 = true := by simpa using h2
  have := (ok b (List.mem_of_getElem? e)).so r h1
  unfold lim at this
  rw [if_pos h3.1] at this
  exact List.mem_filter.mpr ⟨by simpa using this, h3.2⟩
 ·simp at h
theorem zanc {l : List Nat} {i n : Nat} (g : Nat → V) (h : l[i]? = some n) : wD (l.take (i + 1)) g = wD (l.take i) g ++ [((Sum.inl (n : Int) : Key), g n)] := by
 unfold wD
 rw [List.take_add_one, h, List.map_append]
 rfl
theorem zaqt {bs : List Bk} {ins : Nat} (ok : ∀ b ∈ bs, b.ok ins bs.length) (n : Nat) : (lsOf bs n).length ≤ 4 := by
 unfold lsOf
 split
 ·rename_i b e
  rw [List.length_map]
  exact Nat.le_trans (List.length_filter_le _ _) (ok b (List.mem_of_getElem? e)).s4
 ·simp
theorem zase (pr : List (Nat × Nat)) (s : Nat) : (fedOf pr s).length ≤ pr.length := by unfold fedOf; rw [List.length_map]; exact List.length_filter_le _ _
theorem zand {ls : Nat → List Nat} (h : ∀ n, (ls n).length ≤ 4) : ∀ l : List Nat, (prs ls l).length ≤ 4 * l.length
 | [] => by simp [prs]
 | n :: l => by
  have ih := zand h l
  have := h n
  unfold prs at ih ⊢
  rw [List.flatMap_cons, List.length_append, List.length_map, List.length_cons]
  omega
theorem zap6 (pr : List (Nat × Nat)) (s n : Nat) : (fun m => if m = s then fedOf pr m ++ [n] else fedOf pr m) = fedOf (pr ++ [(s, n)]) := by
 funext m
 rw [zap3]
 by_cases e : m = s
 ·rw [if_pos e, if_pos e.symm]
 ·rw [if_neg e, if_neg (Ne.symm e)]
theorem zap7 {ls : Nat → List Nat} {l : List Nat} {i n : Nat} (h : l[i]? = some n) : prs ls (l.take (i + 1)) = prs ls (l.take i) ++ (ls n).map (fun s => (s, n)) := by
 unfold prs
 rw [List.take_add_one, h, List.flatMap_append]
 simp
section
variable {P : Program} {w : World} {K : PySem.W.Frag} {mg : Str → Option Value} {base : Heap} {f : Addr} {fd : FuncData} {k : Nat}
theorem av28 : AF (defScope (top 28)) ["blocks", "loose", "wants", "fed", "number", "source", "ready", "order", "other"] := ⟨by decide +kernel⟩
theorem gl28 : AG (defScope (top 28)) ["enumerate", "dict", "loose_sources", "len"] := ⟨by decide +kernel⟩
def zai3 : Scope := { kind := PySem.ScopeKind.function, names := [ (PySem.Str.ofString ".0", PySem.NameKind.local), (PySem.Str.ofString "number", PySem.NameKind.local), (PySem.Str.ofString "block", PySem.NameKind.local)], isGenerator := false, isCoroutine := false, more := [] : PySem.Scope }
theorem zai4 : CompOk zai3 (defScope (top 28)) (["number", "block"] : List Str) (["blocks", "loose", "wants", "fed", "number", "source", "ready", "order", "other"] : List Str) [] (["number", "block"] : List Str) := compOk rfl (by decide +kernel) (by decide +kernel) (by decide +kernel) (by decide +kernel) rfl (by decide +kernel)
theorem zagy : AK (relab zai3 (defScope (top 28))) ["number", "block"] := ⟨by decide +kernel⟩
theorem zane : AV (relab zai3 (defScope (top 28))) ["number", "block"] := ⟨by decide +kernel⟩
def zagz : Scope := { kind := PySem.ScopeKind.function, names := [ (PySem.Str.ofString ".0", PySem.NameKind.local), (PySem.Str.ofString "number", PySem.NameKind.local), (PySem.Str.ofString "len", PySem.NameKind.globalImplicit), (PySem.Str.ofString "loose_sources", PySem.NameKind.globalImplicit), (PySem.Str.ofString "blocks", PySem.NameKind.free)], isGenerator := false, isCoroutine := false, more := [] : PySem.Scope }
theorem zanf : CompOk zagz (defScope (top 28)) (["number"] : List Str) (["blocks", "loose", "wants", "fed", "number", "source", "ready", "order", "other"] : List Str) [0] (["number", "blocks"] : List Str) := compOk rfl (by decide +kernel) (by decide +kernel) (by decide +kernel) (by decide +kernel) rfl (by decide +kernel)
theorem zang : AK (relab zagz (defScope (top 28))) ["number"] := ⟨by decide +kernel⟩
theorem zanh : AG (relab zagz (defScope (top 28))) ["len", "loose_sources"] := ⟨by decide +kernel⟩
theorem zai5 : AV (relab zagz (defScope (top 28))) ["number", "blocks"] := ⟨by decide +kernel⟩
def zai6 : Scope := { kind := PySem.ScopeKind.function, names := [(PySem.Str.ofString ".0", PySem.NameKind.local), (PySem.Str.ofString "number", PySem.NameKind.local)], isGenerator := false, isCoroutine := false, more := [] : PySem.Scope }
theorem zani : CompOk zai6 (defScope (top 28)) (["number"] : List Str) (["blocks", "loose", "wants", "fed", "number", "source", "ready", "order", "other"] : List Str) [] (["number"] : List Str) := compOk rfl (by decide +kernel) (by decide +kernel) (by decide +kernel) (by decide +kernel) rfl (by decide +kernel)
theorem zanj : AK (relab zai6 (defScope (top 28))) ["number"] := ⟨by decide +kernel⟩
theorem zasf : AV (relab zai6 (defScope (top 28))) ["number"] := ⟨by decide +kernel⟩
def zai7 : Scope := { kind := PySem.ScopeKind.function, names := [ (PySem.Str.ofString ".0", PySem.NameKind.local), (PySem.Str.ofString "number", PySem.NameKind.local), (PySem.Str.ofString "wants", PySem.NameKind.free)], isGenerator := false, isCoroutine := false, more := [] : PySem.Scope }
theorem zank : CompOk zai7 (defScope (top 28)) (["number"] : List Str) (["blocks", "loose", "wants", "fed", "number", "source", "ready", "order", "other"] : List Str) [2] (["number", "wants"] : List Str) := compOk rfl (by decide +kernel) (by decide +kernel) (by decide +kernel) (by decide +kernel) rfl (by decide +kernel)
theorem zanl : AK (relab zai7 (defScope (top 28))) ["number"] := ⟨by decide +kernel⟩
theorem zai8 : AV (relab zai7 (defScope (top 28))) ["number", "wants"] := ⟨by decide +kernel⟩
def spLO : Sp := fun vs H Q _ => ∃ (kd kd2 : SK) (bl : Addr) (ins : Nat) (bs : List Bk) (ps : List Addr), vs = [.ref bl] ∧ SqX kd H bl (ps.map V.ref) ∧ BsAt kd2 H bs ps ∧ (∀ b ∈ bs, b.ok ins bs.length) ∧ bs.length ≤ 64 ∧
 ∀ p order H', Ch [] H H' → H p = none → H' p = some (.lst (order.map nV)) → Kahn (looseOf bs) (lsOf bs) order [] → Q (.ref p) H'
theorem scLO : FnScope ["blocks", "loose", "wants", "fed", "number", "source", "ready", "order", "other"] ["blocks"] (defScope (top 28)) := ⟨rfl, rfl, rfl, by decide +kernel, rfl, by decide +kernel, by decide +kernel⟩
theorem zavh (F : Fun K "loose_order" "loose_order" (top 28) f fd) (Dloose_sources : DefOk P w K mg base CX0 k "loose_sources" ["blocks", "number"] spLS) (z_enumerate : mg "enumerate" = none) (z_len : mg "len" = none) (z_dict : mg "dict" = none) : FnOk P w K mg base CX0 (k + 1) f fd ["blocks"] spLO := by
 have nd := scLO.nd
 refine F.ok scLO (fun vs H Q E h => by obtain ⟨kd, kd2, bl, ins, bs, ps, rfl, _⟩ := h; rfl) (fun cdv A outer s H vs Q E hr h => ?_)
 obtain ⟨kd, kd2, bl, ins, bs, ps, rfl, hb, bt, ok, hl, q⟩ := h
 have hu := zagk hr
 have lp := Paired.length bt
 refine ⟨_, (Pr.h (zaad (zadi (i := 1) nd rfl (av28.l 1 rfl) rfl zai4 (zagn kd (gl28.g 0 rfl) z_enumerate (zaaa (qv av28 0 rfl) zaab zaac)) (fun _ _ _ _ _ => (zack K 2 rfl rfl (zaa3 (zaap (i := 0) zai4.nd rfl (Or.inl (zagy.k 0 rfl)) (Or.inr (zagy.k 0 rfl))) (zaa3 (zaap (i := 1) zai4.nd rfl (Or.inl (zagy.k 1 rfl)) (Or.inr (zagy.k 1 rfl))) zacc)))) (fun _ _ _ _ _ => (zacq (zaat zacs (zaar (zacj K rfl) (qw zane 1 rfl) zaae (fun _ _ => rfl)) zaae (nomark _)))) (fun _ _ _ _ _ => (qw zane 0 rfl)) rfl) (zaad (zaax (i := 2) nd rfl (av28.l 2 rfl) (zabe (zac1 rfl) (gl28.g 1 rfl) z_dict zacx (zaaa (zaa7 rfl zanf (zabj (qv av28 1 rfl)) (fun _ _ _ _ _ => (zaap (i := 0) zanf.nd rfl (Or.inl (zang.k 0 rfl)) (Or.inr (zang.k 0 rfl)))) (fun _ _ _ _ _ => zaa9) (fun _ _ _ _ _ => (zach (zaaa (qw zai5 0 rfl) (zaaa (zaaf (zago K rfl) (zanh.g 0 rfl) z_len PySem.boot_len (zaaa (zaam Dloose_sources hr (zanh.g 1 rfl) pass0 (zaaa (qw zai5 1 rfl) (zaaa (qw zai5 0 rfl) zaab zaac) zaac) zada) zaab zabf) zabc zabd) zaab zabf) zaac)))) zaab zaa0) zacy zacz)) (zaad (zaax (i := 3) nd rfl (av28.l 3 rfl) (zabe (zac1 rfl) (gl28.g 1 rfl) z_dict zacx (zaaa (zaa7 rfl zani (zabj (qv av28 1 rfl)) (fun _ _ _ _ _ => (zaap (i := 0) zani.nd rfl (Or.inl (zanj.k 0 rfl)) (Or.inr (zanj.k 0 rfl)))) (fun _ _ _ _ _ => zaa9) (fun _ _ _ _ _ => (zach (zaaa (qw zasf 0 rfl) (zaaa (zabz zaab) zaab zarv) zaac)))) zaab zaa0) zacy zacz)) (zaad (zabp PassesOwn.never rfl (zabj (qv av28 1 rfl)) (zaap (i := 4) nd rfl (av28.l 4 rfl)) (zaah (zabp PassesOwn.never rfl (zabj (zaam Dloose_sources hr (gl28.g 2 rfl) pass0 (zaaa (qv av28 0 rfl) (zaaa (qv av28 4 rfl) zaab zaac) zaac) zada)) (zaap (i := 5) nd rfl (av28.l 5 rfl)) (zaah (zabu (zafa PySem.F.plainAttrs_list PySem.F.slot_list_append PySem.F.type_list_append zacm (zabi hu (qv av28 3 rfl) (qv av28 5 rfl) (fun _ _ => rfl)) (zaaa (qv av28 4 rfl) zaab zaac))))))) (zaad (zadi (i := 6) nd rfl (av28.l 6 rfl) rfl zank (zabj (qv av28 1 rfl)) (fun _ _ _ _ _ => (zaap (i := 0) zank.nd rfl (Or.inl (zanl.k 0 rfl)) (Or.inr (zanl.k 0 rfl)))) (fun _ _ _ _ _ => (zacq (zaat zacs (zabi hu (qw zai8 1 rfl) (qw zai8 0 rfl) (fun _ _ => rfl)) zaae (nomark _)))) (fun _ _ _ _ _ => (qw zai8 0 rfl)) rfl) (zaad (zaax (i := 7) nd rfl (av28.l 7 rfl) (zabz zaab)) (zaad (zah2 PassesOwn.never (zaat zakf (zaaf zaan (gl28.g 3 rfl) z_len PySem.boot_len (zaaa (qv av28 6 rfl) zaab zaac) zabc zabd) zaae (nomark _)) (zaad (zaax (i := 4) nd rfl (av28.l 4 rfl) (zaml (qv av28 6 rfl))) (zaad (zabu (zafa PySem.F.plainAttrs_list PySem.F.slot_list_append PySem.F.type_list_append zacm (qv av28 7 rfl) (zaaa (qv av28 4 rfl) zaab zaac))) (zaah (zabp PassesOwn.never rfl (zabj (zabi hu (qv av28 3 rfl) (qv av28 4 rfl) (fun _ _ => rfl))) (zaap (i := 8) nd rfl (av28.l 8 rfl)) (zaad (zadw hu (qv av28 2 rfl) (qv av28 8 rfl) (zaaz zaqi (zabi hu (qv av28 2 rfl) (qv av28 8 rfl) (fun _ _ => rfl)) zaae) rfl) (zaah (zaa5 (zaat zacs (zabi hu (qv av28 2 rfl) (qv av28 8 rfl) (fun _ _ => rfl)) zaae (nomark _)) (zaah (zabu (zafa PySem.F.plainAttrs_list PySem.F.slot_list_append PySem.F.type_list_append zacm (qv av28 6 rfl) (zaaa (qv av28 8 rfl) zaab zaac)))) zaav)))))))) (zaah (zaas (qv av28 7 rfl))))))))))), ?_⟩
 (try dsimp only [cxOf])
 walk_at "rd"
 refine ⟨⟨_, hb.sq⟩, ?_⟩
 refine zafe (ps.map V.ref) (fun i ys σ H' => Ch [] H H' ∧ ys = ((List.range i).filter (loB bs)).map nV ∧ ∃ u v, σ = [u, v]) (by rw [sizeLine_eq, List.length_map]; omega) ⟨Ch.refl _ _, rfl, _, _, rfl⟩ ?_ ?_ ?_
 ·rintro i ys σ H' hi ⟨c, rfl, _⟩
  refine ⟨?_, (hb.ch c).sq⟩
  rw [List.length_map]
  exact Nat.le_trans (List.length_filter_le _ _) (by rw [List.length_range]; exact Nat.le_refl _)
 ·rintro i ys σ H' z T hz ⟨c, rfl, u, v, rfl⟩ hT
  have hi : i < bs.length := by have := (List.getElem?_eq_some_iff.mp hz).1; rw [List.length_map] at this; omega
  obtain ⟨p, b, e1, e2, ⟨lpp, _, hp, _⟩⟩ := zaie bt i hi
  rw [e1] at hz
  cases hz
  have hp1 : H' p = some (.tup [.ref lpp, .int b.bits, .int b.kept, .int b.first]) := c.get hp (by simp)
  have lo := zadm e2
  rw [List.range_succ, List.filter_append, List.map_append]
  walk_at "rd"
  refine ite2 (fun hc => ?_) (fun hc => ?_)
  ·have hk : b.kept = 0 := by simpa using hc
   rw [hk] at lo
   exact ⟨_, rfl, c.trans (Ch.new hT _), by simp [lo]; rfl, _, _, rfl⟩
  ·have hk : b.kept ≠ 0 := by simpa using hc
   exact ⟨c.trans (Ch.new hT _), by simp [lo, hk], _, _, rfl⟩
 rintro ys σ H' ⟨c0, rfl, _⟩
 rw [List.length_map, ← lp]
 show ∀ p, H' p = none → _
 intro lo hlo
 have nL := zafp bs
 have lL : ∀ n ∈ looseOf bs, n < bs.length := fun n hn => zady hn
 have lsL : ∀ n s, s ∈ lsOf bs n → s ∈ looseOf bs := fun n s h => zae2 h ins ok
 have c1 : Ch [] H (upd H' lo (.lst ((looseOf bs).map nV))) := c0.trans (Ch.new hlo _)
 have gl1 : (upd H' lo (.lst ((looseOf bs).map nV))) lo = some (.lst ((looseOf bs).map nV)) := zaag
 have lL64 : (looseOf bs).length ≤ 64 := by
  have := List.length_filter_le (loB bs) (List.range bs.length)
  rw [List.length_range] at this
  exact Nat.le_trans this hl
 show tSeq _ _ _ _ (upd H' lo (.lst ((looseOf bs).map nV)))
 generalize upd H' lo (.lst ((looseOf bs).map nV)) = H1 at c1 gl1 ⊢
 generalize hLL : looseOf bs = loose at *
 clear c0 hlo
 have hb1 : SqX kd H1 bl (ps.map V.ref) := hb.ch c1
 have bt1 := zap5 c1 bt
 walk_at "rd"
 refine zab4 (loose.map nV) (fun i ys σ H' => WC H1 H' (loose.take i) (fun n => .int ((lsOf bs n).length : Int)) ys ∧ ∃ u, σ = [u, some (.ref bl)]) (by rw [sizeLine_eq, List.length_map]; omega) ⟨⟨Ch.refl _ _, [], rfl, .nil⟩, _, rfl⟩ ?_ ?_ ?_
 ·rintro i ys σ H' hi ⟨⟨c, ts, rfl, tt⟩, _⟩
  refine ⟨?_, SqL.of (c.get gl1 (by simp))⟩
  rw [List.length_map, Paired.length tt]
  unfold wD
  rw [List.length_map, List.length_take]
  omega
 ·rintro i ys σ H' z hz ⟨⟨c, ts, rfl, tt⟩, u, rfl⟩
  rw [List.getElem?_map] at hz
  obtain ⟨n, hn, rfl⟩ := Option.map_eq_some_iff.mp hz
  have hb2 : SqX kd H' bl (ps.map V.ref) := hb1.ch c
  have bt2 := zap5 c bt1
  have hn2 := lL n (List.mem_of_getElem? hn)
  walk_at "rd"
  rename_i p2 H2 c2 f2 g2 T hT
  refine ⟨⟨(c.trans c2).trans (Ch.new hT _), ts ++ [T], by simp, ?_⟩, _, rfl⟩
  rw [zanc _ hn]
  refine zaen ?_ (zafo (c2.trans (Ch.new hT _)) tt)
  rw [zaag, List.length_map]
  rfl
 rintro ys σ H2 ⟨⟨c2, ts, rfl, tt⟩, _⟩
 rw [List.length_map, List.take_length] at tt
 intro D hD
 have cD : Ch [] H2 (upd H2 D (.lst (ts.map V.ref))) := Ch.new hD _
 refine ⟨D, ts, wD loose (fun n => .int ((lsOf bs n).length : Int)), rfl, zaag, Paired.length tt, zak0 (zafo cD tt), zafn nL, ?_, fun wd hwd => ?_⟩
 ·unfold wD; rw [List.length_map, sizeLine_eq]; omega
 have cW : Ch [] (upd H2 D (.lst (ts.map V.ref))) (upd (upd H2 D (.lst (ts.map V.ref))) wd (.dK (wD loose (fun n => .int ((lsOf bs n).length : Int))))) := Ch.new hwd _
 have c3 := (c2.trans cD).trans cW
 have gw3 : (upd (upd H2 D (.lst (ts.map V.ref))) wd (.dK (wD loose (fun n => .int ((lsOf bs n).length : Int))))) wd = some (.dK (wD loose (fun n => .int ((lsOf bs n).length : Int)))) := zaag
 have hw0 : H wd = none := chFree (c1.trans (c2.trans cD)) hwd
 show tSeq _ _ _ _ (upd (upd H2 D (.lst (ts.map V.ref))) wd (.dK (wD loose (fun n => .int ((lsOf bs n).length : Int)))))
 generalize upd (upd H2 D (.lst (ts.map V.ref))) wd (.dK (wD loose (fun n => .int ((lsOf bs n).length : Int)))) = H3 at c3 gw3 ⊢
 have gl3 : H3 lo = some (.lst (loose.map nV)) := c3.get gl1 (by simp)
 have hb3 : SqX kd H3 bl (ps.map V.ref) := hb1.ch c3
 have bt3 := zap5 c3 bt1
 have c03 := c1.trans c3
 clear hwd cW cD hD tt c2 c3 gl1 hb1 bt1 c1
 walk_at "rd"
 refine zab4 (loose.map nV) (fun i ys σ H' => FC H3 H' (loose.take i) ys ∧ ∃ u, σ = [u]) (by rw [sizeLine_eq, List.length_map]; omega) ⟨⟨Ch.refl _ _, [], [], rfl, rfl, .nil, by simp, by simp⟩, _, rfl⟩ ?_ ?_ ?_
 ·rintro i ys σ H' hi ⟨⟨c, ts, la, rfl, e1, tt, _⟩, _⟩
  refine ⟨?_, SqL.of (c.get gl3 (by simp))⟩
  have z := congrArg List.length e1
  rw [List.length_map, List.length_take] at z
  rw [List.length_map, Paired.length tt]
  unfold laD
  rw [List.length_map]
  omega
 ·rintro i ys σ H' z hz ⟨⟨c, ts, la, rfl, e1, tt, hla, nla⟩, u, rfl⟩
  rw [List.getElem?_map] at hz
  obtain ⟨n, hn, rfl⟩ := Option.map_eq_some_iff.mp hz
  walk_at "rd"
  rename_i q hq T hT
  have cq : Ch [] H' (upd (upd H' q (.lst [])) T (.tup [nV n, .ref q])) := (Ch.new hq _).trans (Ch.new hT _)
  refine ⟨⟨c.trans cq, ts ++ [T], la ++ [(n, q)], by simp, ?_, ?_, fun p hp => ?_, ?_⟩, _, rfl⟩
  ·rw [List.map_append, e1, List.take_add_one, hn]; rfl
  ·unfold laD
   rw [List.map_append]
   refine zaen ?_ (zafo cq tt)
   exact zaag
  ·rcases List.mem_append.mp hp with z | z
   ·exact ⟨cq.get (hla p z).1 (by simp), (hla p z).2⟩
   ·rw [List.mem_singleton.mp z]
    exact ⟨zabq hT zaag, chFree c hq⟩
  ·rw [List.map_append, List.nodup_append]
   refine ⟨nla, by simp, fun x hx y hy e => ?_⟩
   obtain ⟨p, hp, rfl⟩ := List.mem_map.mp hx
   have : y = q := by simpa using hy
   have h1 := (hla p hp).1
   rw [e, this, hq] at h1
   cases h1
 rintro ys σ H4 ⟨⟨c4, ts, la, rfl, e1, tt, hla, nla⟩, _⟩
 rw [List.length_map, List.take_length] at e1
 intro D hD
 have cD : Ch [] H4 (upd H4 D (.lst (ts.map V.ref))) := Ch.new hD _
 have eD : laD la = wD loose (fun n => ((la.map fun p => (p.1, V.ref p.2)).lookup n).getD .non) ∨ True := .inr trivial
 clear eD
 have kD : ((laD la).map (·.1)).Nodup := by
  have e : (laD la).map (·.1) = (wD loose fun _ => V.non).map (·.1) := by
   unfold laD wD
   rw [← e1, List.map_map, List.map_map, List.map_map]
   rfl
  rw [e]
  exact zafn nL
 have lla : la.length = loose.length := by rw [← e1, List.length_map]
 refine ⟨D, ts, laD la, rfl, zaag, Paired.length tt, zak0 (zafo cD tt), kD, ?_, fun fdd hfd => ?_⟩
 ·unfold laD; rw [List.length_map, sizeLine_eq]; omega
 have c5 : Ch [] H3 (upd (upd H4 D (.lst (ts.map V.ref))) fdd (.dK (laD la))) := (c4.trans cD).trans (Ch.new hfd _)
 have F5 : Fed H3 (upd (upd H4 D (.lst (ts.map V.ref))) fdd (.dK (laD la))) fdd la (fun _ => []) := ⟨zaag, fun p hp => ⟨zabq hfd (cD.get (hla p hp).1 (by simp)), (hla p hp).2⟩, by rw [e1]; exact nL, nla⟩
 have f5 : H3 fdd = none := chFree (c4.trans cD) hfd
 show tSeq _ _ _ _ (upd (upd H4 D (.lst (ts.map V.ref))) fdd (.dK (laD la)))
 generalize upd (upd H4 D (.lst (ts.map V.ref))) fdd (.dK (laD la)) = H5 at c5 F5 ⊢
 clear hfd cD hD tt c4 hla kD
 have gl5 : H5 lo = some (.lst (loose.map nV)) := c5.get gl3 (by simp)
 walk_at "rd"
 refine zadb (xs := loose.map nV) (fun i σ H' => ∃ u4 u5, σ = [some (.ref bl), some (.ref lo), some (.ref wd), some (.ref fdd), u4, u5, none, none, none] ∧ Ch [] H3 H' ∧ Fed H3 H' fdd la (fedOf (prs (lsOf bs) (loose.take i)))) ⟨_, _, rfl, c5, F5⟩ ?_ ?_ ?_
 ·rintro i σ H' hi ⟨_, _, rfl, c, _⟩
  exact SqL.of (c.get gl3 (by simp))
 ·rintro i z σ H' hz ⟨u4, u5, rfl, c, F⟩
  rw [List.getElem?_map] at hz
  obtain ⟨n, hn, rfl⟩ := Option.map_eq_some_iff.mp hz
  have hb2 : SqX kd H' bl (ps.map V.ref) := hb3.ch c
  have bt2 := zap5 c bt3
  have hn2 := lL n (List.mem_of_getElem? hn)
  walk_at "rd"
  rename_i sl H6 c6 f6 g6
  have lpr := zand (zaqt ok) (loose.take i)
  rw [List.length_take] at lpr
  rw [zap7 hn]
  generalize prs (lsOf bs) (loose.take i) = pr at F lpr ⊢
  have lsn := zaqt ok n
  refine zadb (xs := (lsOf bs n).map nV) (fun j σ H' => ∃ u5, σ = [some (.ref bl), some (.ref lo), some (.ref wd), some (.ref fdd), some (nV n), u5, none, none, none] ∧ Ch [] H3 H' ∧ Fed H3 H' fdd la (fedOf (pr ++ ((lsOf bs n).take j).map (fun s => (s, n)))) ∧ H' sl = some (.lst ((lsOf bs n).map nV)) ∧ ∀ p ∈ la, p.2 ≠ sl) ⟨_, rfl, c.trans c6, by rw [List.take_zero, List.map_nil, List.append_nil]; exact F.ch c6, g6, fun p hp => zaao (F.ls p hp).1 f6⟩ ?_ ?_ ?_
  ·rintro j σ H' hj ⟨_, rfl, _, _, g, _⟩
   exact SqL.of g
  ·rintro j z σ H7 hz ⟨u5, rfl, c7, F7, g7, n7⟩
   rw [List.getElem?_map] at hz
   obtain ⟨sr, hs, rfl⟩ := Option.map_eq_some_iff.mp hz
   have et : (lsOf bs n).take (j + 1) = (lsOf bs n).take j ++ [sr] := by rw [List.take_add_one, hs]; rfl
   rw [et, List.map_append, ← List.append_assoc]
   have lq : ((lsOf bs n).take j).length ≤ 4 := by rw [List.length_take]; omega
   have lpq : (pr ++ ((lsOf bs n).take j).map (fun s => (s, n))).length ≤ 300 := by rw [List.length_append, List.length_map]; omega
   generalize pr ++ ((lsOf bs n).take j).map (fun s => (s, n)) = pq at F7 lpq ⊢
   obtain ⟨a, hv, ha, hla⟩ := F7.of (n := sr) (by rw [e1]; exact lsL n sr (List.mem_of_getElem? hs))
   have hfd := F7.at_
   have lz : ((fedOf pq sr).map nV).length < sizeLine := by
    have := zase pq sr
    rw [List.length_map, sizeLine_eq]; omega
   clear bt2 hb2 F
   walk_at "rd"
   have F8 := F7.add (x := n) ha
   rw [zap6] at F8
   exact ⟨Ch.own (F7.ls _ ha).2 c7, F8, zabg (n7 _ ha).symm g7, n7⟩
  ·rintro σ H' ⟨u5, rfl, c7, F7, _⟩
   rw [List.length_map, List.take_length] at F7
   exact ⟨_, _, rfl, c7, F7⟩
 ·rintro σ H6 ⟨u4, u5, rfl, c6, F6⟩
  rw [List.length_map, List.take_length] at F6
  have gl6 : H6 lo = some (.lst (loose.map nV)) := c6.get gl3 (by simp)
  have gw6 : H6 wd = some (.dK (wD loose (fun n => .int ((lsOf bs n).length : Int)))) := c6.get gw3 (by simp)
  walk_at "rd"
  refine zab4 (loose.map nV) (fun i ys σ H' => H' = H6 ∧ ys = ((loose.take i).filter fun n => decide ((lsOf bs n).length = 0)).map nV ∧ ∃ u, σ = [u, some (.ref wd)]) (by rw [sizeLine_eq, List.length_map]; omega) ⟨rfl, rfl, _, rfl⟩ ?_ ?_ ?_
  ·rintro i ys σ H' hi ⟨rfl, rfl, _⟩
   refine ⟨?_, SqL.of gl6⟩
   rw [List.length_map]
   exact Nat.le_trans (List.length_filter_le _ _) (by rw [List.length_take]; omega)
  ·rintro i ys σ H' z hz ⟨rfl, rfl, u, rfl⟩
   rw [List.getElem?_map] at hz
   obtain ⟨n, hn, rfl⟩ := Option.map_eq_some_iff.mp hz
   have hv := zado (g := fun n => .int ((lsOf bs n).length : Int)) (List.mem_of_getElem? hn)
   rw [List.take_add_one, hn, List.filter_append, List.map_append]
   walk_at "rd"
   refine ite2 (fun hc => ?_) (fun hc => ?_)
   ·have hk : (lsOf bs n).length = 0 := by simpa using hc
    have ef : ([n].filter fun n => decide ((lsOf bs n).length = 0)) = [n] := by rw [List.filter_cons, if_pos (decide_eq_true hk)]; rfl
    exact ⟨_, rfl, rfl, by rw [show (some n).toList = [n] from rfl, ef]; rfl, _, rfl⟩
   ·have hk : ¬ (lsOf bs n).length = 0 := by simpa using hc
    have ef : ([n].filter fun n => decide ((lsOf bs n).length = 0)) = [] := by rw [List.filter_cons, if_neg (by simpa using hk)]; rfl
    exact ⟨rfl, by rw [show (some n).toList = [n] from rfl, ef, List.map_nil, List.append_nil], _, rfl⟩
  rintro ys σ H' ⟨rfl, rfl, _⟩
  rw [List.length_map, List.take_length]
  have k0 := zak1 loose (lsOf bs) nL
  generalize hr0 : (loose.filter fun n => decide ((lsOf bs n).length = 0)) = r0 at k0 ⊢
  intro rd hrd
  refine ⟨by rw [sizeLine_eq]; decide, fun od hod => ?_⟩
  have cR : Ch [] H' (upd (upd H' rd (.lst (r0.map nV))) od (.lst [])) := (Ch.new hrd _).trans (Ch.new hod _)
  have c06 := c03.trans c6
  have L0 : LO H (upd (upd H' rd (.lst (r0.map nV))) od (.lst [])) wd fdd rd od loose la (fedOf (prs (lsOf bs) loose)) (fun o => (wt (lsOf bs) [] o : Int)) r0 [] :=
   LO.congr ⟨c06.trans cR, cR.get gw6 (by simp), (F6.rebase c03).ch cR, zabq hod zaag, zaag, hw0, chFree c06 hrd, chFree (c06.trans (Ch.new hrd _)) hod, (fun z => by rw [← z, zaag] at hod; cases hod), zaao gw3 f5, fun p hp => zaao (F6.ls p hp).1 hrd, fun p hp => zaao (zabq hrd (F6.ls p hp).1) hod⟩ fun n _ => by rw [zaqs]
  have hod0 := L0.ho
  have fb := fun x => zaug (lsOf bs) nL x
  generalize hF : fedOf (prs (lsOf bs) loose) = F at L0 fb
  show tWhile _ _ _ _ _
  refine zaj3 (fun m σ H' => ∃ (u4 u5 u8 : Option V) (ready order : List Nat), σ = [some (.ref bl), some (.ref lo), some (.ref wd), some (.ref fdd), u4, u5, some (.ref rd), some (.ref od), u8] ∧ Kahn loose (lsOf bs) order ready ∧ LO H H' wd fdd rd od loose la F (fun o => (wt (lsOf bs) order o : Int)) ready order ∧ m = loose.length - order.length) ⟨_, _, _, _, _, _, rfl, k0, L0, rfl⟩ ?_ ?_
  ·clear L0 k0 hr0 r0 hrd hod cR gl6 gw6 F6 c6 c06 F5 c5 gl5 gl3 gw3 hb3 bt3 c03
   rintro m σ H1 ⟨u4, u5, u8, ready, order, rfl, kh, lo1, rfl⟩
   have hrd1 := lo1.r
   walk_at "rd"
   refine ite2 (fun hc => ?_) (fun hc => ?_)
   ·have hne : ready ≠ [] := by rintro rfl; simp at hc
    obtain ⟨r', x, rfl⟩ : ∃ r' x, ready = r' ++ [x] := ⟨ready.dropLast, ready.getLast hne, (List.dropLast_concat_getLast hne).symm⟩
    obtain ⟨xl, xo, xz, md⟩ := kh.pop
    have ol := kh.le
    have hla : ((r' ++ [x]).map nV)[((r' ++ [x]).map nV).length - 1]? = some (nV x) := by simp
    have edl : ((r' ++ [x]).map nV).dropLast = r'.map nV := by rw [List.map_append]; exact List.dropLast_concat
    refine ⟨_, rfl, .inl ⟨rfl, _, SqL.of hrd1⟩, rd, _, _, rfl, rfl, hrd1, hla, ?_⟩
    rw [edl]
    have L1 := lo1.setR r'
    generalize upd H1 rd (.lst (r'.map nV)) = H2 at L1 ⊢
    have hod2 := L1.o
    have lod : (order.map nV).length < sizeLine := by rw [List.length_map, sizeLine_eq]; omega
    have L2 : LO H (upd H2 od (.lst (order.map nV ++ [nV x]))) wd fdd rd od loose la F (fun o => (wt (lsOf bs) order o : Int)) r' (order ++ [x]) := by
     have := L1.setO (order ++ [x])
     rw [List.map_append] at this
     exact this
    obtain ⟨a, hv, ha, hga⟩ := L1.f.of (n := x) (by rw [e1]; exact xl)
    have hfd2 := L1.f.at_
    have nao : a ≠ od := L1.oa _ ha
    have nar : a ≠ rd := L1.ra _ ha
    have fbx := fb x
    clear hrd1 hla edl hc lo1 hne
    walk_at "rd"
    refine zadb (xs := (F x).map nV) (fun j σ H' => ∃ (u8 : Option V) (rj : List Nat), σ = [some (.ref bl), some (.ref lo), some (.ref wd), some (.ref fdd), some (nV x), u5, some (.ref rd), some (.ref od), u8] ∧ Mid loose (lsOf bs) order x ((F x).take j) rj ∧ LO H H' wd fdd rd od loose la F (fun o => (wt (lsOf bs) order o : Int) - (((F x).take j).count o : Int)) rj (order ++ [x])) ⟨_, r', rfl, md, L2.congr fun n _ => by simp⟩ ?_ ?_ ?_
    ·rintro j σ H' hj ⟨_, _, rfl, _, l⟩
     exact SqL.of (l.f.ls _ ha).1
    ·rintro j z σ H3 hz ⟨u8, rj, rfl, mj, lj⟩
     rw [List.getElem?_map] at hz
     obtain ⟨o, ho, rfl⟩ := Option.map_eq_some_iff.mp hz
     obtain ⟨o1, o2, o3, o4, o5, o6⟩ := mj.step kh.oz xo xz fbx ho
     have hw3 := lj.w
     have hv3 := zado (g := fun n => .int ((wt (lsOf bs) order n : Int) - (((F x).take j).count n : Int))) o1
     have lw3 : (wD loose fun n => V.int ((wt (lsOf bs) order n : Int) - (((F x).take j).count n : Int))).length < sizeLine := by unfold wD; rw [List.length_map, sizeLine_eq]; omega
     have hv4 : valV (putK (wD loose fun n => V.int ((wt (lsOf bs) order n : Int) - (((F x).take j).count n : Int))) (.inl (o : Int)) (.int ((wt (lsOf bs) order o : Int) - (((F x).take j).count o : Int) - 1))) (.inl (o : Int)) = some (.int ((wt (lsOf bs) order o : Int) - (((F x).take j).count o : Int) - 1)) := by rw [zapg, if_pos rfl]
     have hrd3 := lj.r
     have lrj : (rj.map nV).length < sizeLine := by have := mj.le; rw [List.length_map, sizeLine_eq]; omega
     have lW := (lj.setW o1 ((wt (lsOf bs) order o : Int) - (((F x).take j).count o : Int) - 1)).congr (wv' := fun o => (wt (lsOf bs) order o : Int) - (((F x).take (j + 1)).count o : Int)) fun n _ => by
      by_cases e : n = o
      ·rw [if_pos e, e, o2]; omega
      ·rw [if_neg e, o4 n e]
     clear hod2 hfd2 hga L1 L2 hv
     walk_at "rd"
     refine ite2 (fun hc => ?_) (fun hc => ?_)
     ·have hc : (wt (lsOf bs) order o : Int) - (((F x).take j).count o : Int) - 1 = 0 := by simpa using hc
      walk_at "rd"
      have := lW.setR (rj ++ [o])
      rw [List.map_append] at this
      exact ⟨o5 (by omega), this⟩
     ·have hc : (wt (lsOf bs) order o : Int) - (((F x).take j).count o : Int) - 1 ≠ 0 := by simpa using hc
      walk_at "rd"
      exact ⟨o6 (by omega), lW⟩
    ·rintro σ H3 ⟨u8, rj, rfl, mj, lj⟩
     rw [List.length_map, List.take_length] at mj lj
     have kh2 := Mid.done kh.tp kh.no kh.ol kh.oz xl xo xz fbx mj
     have le2 := kh2.le
     rw [List.length_append, List.length_singleton] at le2
     refine ⟨_, ?_, _, _, _, rj, order ++ [x], rfl, kh2, lj.congr fun n hn => ?_, rfl⟩
     ·rw [List.length_append, List.length_singleton]; omega
     ·have z1 := zafh (ls := lsOf bs) xo n
      have z2 := fbx.c n hn
      omega
   ·have hnil : ready = [] := by
     cases ready with
     | nil => rfl
     | cons _ _ => exact absurd hc (by simp)
    subst hnil
    walk_at "rd"
    exact q od order _ lo1.ch lo1.ho lo1.o kh
  ·rintro σ H Q Q' hq ⟨v, h1, p, ys, h2, h3, i, j, h4, h5, k, h6, h7⟩
   exact ⟨v, h1, p, ys, h2, h3, i, j, h4, h5, k, h6, hq _ _ h7⟩
theorem gl29 : AG (defScope (top 29)) ["len", "loose_order"] := ⟨by decide +kernel⟩
theorem av29 : AF (defScope (top 29)) ["blocks"] := ⟨by decide +kernel⟩
def zai9 : Scope := { kind := PySem.ScopeKind.function, names := [(PySem.Str.ofString ".0", PySem.NameKind.local), (PySem.Str.ofString "block", PySem.NameKind.local)], isGenerator := false, isCoroutine := false, more := [] : PySem.Scope }
theorem zanm : CompOk zai9 (defScope (top 29)) (["block"] : List Str) (["blocks"] : List Str) [] (["block"] : List Str) := compOk rfl (by decide +kernel) (by decide +kernel) (by decide +kernel) (by decide +kernel) rfl (by decide +kernel)
theorem zann : AK (relab zai9 (defScope (top 29))) ["block"] := ⟨by decide +kernel⟩
theorem zano : AV (relab zai9 (defScope (top 29))) ["block"] := ⟨by decide +kernel⟩
def spRing : Sp := fun vs H Q _ => ∃ (kd kd2 : SK) (bl : Addr) (ins : Nat) (bs : List Bk) (ps : List Addr), vs = [.ref bl] ∧ SqX kd H bl (ps.map V.ref) ∧ BsAt kd2 H bs ps ∧ (∀ b ∈ bs, b.ok ins bs.length) ∧ bs.length ≤ 64 ∧
 (Acy (looseOf bs) (lsOf bs) → ∀ H', Ch [] H H' → Q (.bl false) H') ∧ (¬ Acy (looseOf bs) (lsOf bs) → ∀ H', Ch [] H H' → Q (.bl true) H')
theorem scRing : FnScope ["blocks"] ["blocks"] (defScope (top 29)) := ⟨rfl, rfl, rfl, by decide +kernel, rfl, by decide +kernel, by decide +kernel⟩
theorem zasg (F : Fun K "has_ring" "has_ring" (top 29) f fd) (Dloose_order : DefOk P w K mg base CX0 k "loose_order" ["blocks"] spLO) (z_len : mg "len" = none) : FnOk P w K mg base CX0 (k + 1) f fd ["blocks"] spRing := by
 have nd := scRing.nd
 refine F.ok scRing (fun vs H Q E h => by obtain ⟨kd, kd2, bl, ins, bs, ps, rfl, _⟩ := h; rfl) (fun cdv A outer s H vs Q E hr h => ?_)
 obtain ⟨kd, kd2, bl, ins, bs, ps, rfl, hb, bt, ok, hl, q1, q2⟩ := h
 have lp := Paired.length bt
 refine ⟨_, (Pr.h (zaah (zaas (zabt zadr (zaaf zaan (gl29.g 0 rfl) z_len PySem.boot_len (zaaa (zaam Dloose_order hr (gl29.g 1 rfl) pass0 (zaaa (qv av29 0 rfl) zaab zaac) zadn) zaab zabf) zabc zabd) (zaaf zaan (gl29.g 0 rfl) z_len PySem.boot_len (zaaa (zaa7 rfl zanm (zaej K rfl kd (qv av29 0 rfl)) (fun _ _ _ _ _ => (zaap (i := 0) zanm.nd rfl (Or.inl (zann.k 0 rfl)) (Or.inr (zann.k 0 rfl)))) (fun _ _ _ _ _ => (zacq (zaat zacs (zaar (zacj K rfl) (qw zano 0 rfl) zaae (fun _ _ => rfl)) zaae (nomark _)))) (fun _ _ _ _ _ => (qw zano 0 rfl))) zaab zaa0) zabc zabd) (nomark _))))), ?_⟩
 (try dsimp only [cxOf])
 walk_at "rd"
 rename_i od order H1 c1 f1 g1 kh
 have hb1 : SqX kd H1 bl (ps.map V.ref) := hb.ch c1
 refine ⟨⟨_, hb1.sq⟩, ?_⟩
 refine zaek (ps.map V.ref) (fun i ys σ H' => H' = H1 ∧ ys.length = ((List.range i).filter (loB bs)).length ∧ ∃ u, σ = [u]) (by rw [sizeLine_eq, List.length_map]; omega) ⟨rfl, rfl, _, rfl⟩ ?_ ?_ ?_
 ·rintro i ys σ H' hi ⟨rfl, e, _⟩
  refine ⟨?_, hb1.sq⟩
  rw [e]
  exact Nat.le_trans (List.length_filter_le _ _) (by rw [List.length_range]; exact Nat.le_refl _)
 ·rintro i ys σ H' z hz ⟨rfl, e, u, rfl⟩
  have hi : i < bs.length := by have := (List.getElem?_eq_some_iff.mp hz).1; rw [List.length_map] at this; omega
  obtain ⟨p, b, e1, e2, ⟨lpp, _, hp, _⟩⟩ := zaie bt i hi
  rw [e1] at hz
  cases hz
  have hp1 : H' p = some (.tup [.ref lpp, .int b.bits, .int b.kept, .int b.first]) := c1.get hp (by simp)
  have lo := zadm e2
  rw [List.range_succ, List.filter_append, List.length_append]
  walk_at "rd"
  refine ite2 (fun hc => ?_) (fun hc => ?_)
  ·have hk : b.kept = 0 := by simpa using hc
   rw [hk] at lo
   exact ⟨_, rfl, rfl, by simp [lo, e], _, rfl⟩
  ·have hk : b.kept ≠ 0 := by simpa using hc
   exact ⟨rfl, by simp [lo, hk, e], _, rfl⟩
 ·rintro ys σ H' ⟨rfl, e, _⟩
  intro D hD
  have gD : (upd H' D (.lst ys)) D = some (.lst ys) := zaag
  have e : ys.length = (looseOf bs).length := by rw [e, List.length_map, ← lp]; rfl
  have lsl : ∀ n s, s ∈ lsOf bs n → s ∈ looseOf bs := fun n s h => zae2 h ins ok
  walk_at "rd"
  by_cases ac : Acy (looseOf bs) (lsOf bs)
  ·have el : (order.map nV).length = ys.length := by rw [e, List.length_map]; exact kh.len (zafp bs) ac
   rw [el, decide_eq_true rfl]
   exact q1 ac _ (c1.trans (Ch.new hD _))
  ·rw [decide_eq_false (fun z => ac (kh.acy (by rw [List.length_map, e] at z; have z : (order.length : Int) = ((looseOf bs).length : Int) := (by simpa using z); omega) lsl))]
   exact q2 ac _ (c1.trans (Ch.new hD _))
end
end

section
structure AskAt (kd kd2 kd3 : SK) (H : Hp) (bl ol : Addr) (bgs : List BG) (ogs : List (List V)) : Prop where
 b : ∃ ps, SqX kd H bl (ps.map V.ref) ∧ Paired (BgAt kd2 H) bgs ps
 o : ∃ ps, SqX kd3 H ol (ps.map V.ref) ∧ Paired (PgAt H) ogs ps
 lb : bgs.length ≤ 40
 lo : ogs.length ≤ 40
structure AOk (ins : Nat) (bgs : List BG) (ogs : List (List V)) : Prop where
 b : ∀ x ∈ bgs, bkB ins bgs.length x = true
 o : ∀ x ∈ ogs, plB ins bgs.length x = true
 a : ∀ bs : List Bk, bgs = bs.map Bk.g → Acy (looseOf bs) (lsOf bs)
theorem zanp {n : Nat} (h : n ≤ 4) : rm n = room n := by
 have e5 : n = 0 ∨ n = 1 ∨ n = 2 ∨ n = 3 ∨ n = 4 := by omega
 rcases e5 with rfl | rfl | rfl | rfl | rfl <;> decide +kernel
theorem zauk {a c : Nat} {x : Bool} {n : Int} : plB a c [.str (wd x), .int n] = (decide (0 ≤ n) && decide (n < (lim a c x : Int))) := by
 show inB (valV (cntK a c) (.inr (wd x))) n = _
 rw [zaiw]
 rfl
theorem zash {a c : Nat} {xs : List V} (h : plB a c xs = true) : ∃ s : Src, xs = sg s ∧ s.2 < lim a c s.1 := by
 unfold plB at h
 split at h
 case h_2 => cases h
 case h_1 w n =>
  have hw : w = wd false ∨ w = wd true := by
   refine Classical.byContradiction fun z => ?_
   rw [not_or] at z
   have : valV (cntK a c) (.inr w) = none := by
    unfold valV cntK
    rw [List.find?_cons_of_neg (by simpa using fun e => z.1 e.symm), List.find?_cons_of_neg (by simpa using fun e => z.2 e.symm)]
    rfl
   rw [this] at h
   cases h
  rcases hw with rfl | rfl
  ·rw [zaiw] at h
   have h : (decide (0 ≤ n) && decide (n < (lim a c false : Int))) = true := h
   rw [Bool.and_eq_true, decide_eq_true_eq, decide_eq_true_eq] at h
   obtain ⟨m, rfl⟩ := Int.eq_ofNat_of_zero_le h.1
   exact ⟨(false, m), rfl, by show m < lim a c false; omega⟩
  ·rw [zaiw] at h
   have h : (decide (0 ≤ n) && decide (n < (lim a c true : Int))) = true := h
   rw [Bool.and_eq_true, decide_eq_true_eq, decide_eq_true_eq] at h
   obtain ⟨m, rfl⟩ := Int.eq_ofNat_of_zero_le h.1
   exact ⟨(true, m), rfl, by show m < lim a c true; omega⟩
theorem zanq {a c : Nat} : ∀ {ls : List (List V)}, (∀ x ∈ ls, plB a c x = true) → ∃ ss : List Src, ls = ss.map sg ∧ ∀ s ∈ ss, s.2 < lim a c s.1
 | [], _ => ⟨[], rfl, by simp⟩
 | x :: ls, h => by
  obtain ⟨s, rfl, hs⟩ := zash (h x (by simp))
  obtain ⟨ss, rfl, hss⟩ := zanq (ls := ls) fun y hy => h y (by simp [hy])
  exact ⟨s :: ss, rfl, fun z hz => by
   rcases List.mem_cons.mp hz with rfl | hz
   ·exact hs
   ·exact hss z hz⟩
theorem zadj {i b : Int} : belB (.int i) b = true ↔ 0 ≤ i ∧ i < b := by
 show (decide (0 ≤ i) && decide (i < b)) = true ↔ _
 rw [Bool.and_eq_true, decide_eq_true_eq, decide_eq_true_eq]
theorem zaul {a c : Nat} {g : BG} (h : bkB a c g = true) : ∃ b : Bk, g = b.g ∧ b.ok a c := by
 cases g with
 | odd => cases h
 | bk ls bits kept first =>
  have h : (tgB a c (.tb ls bits) && (belB (.int kept) 2 && belB (.int first) (kept + 1))) = true := h
  rw [Bool.and_eq_true, Bool.and_eq_true, zadj, zadj] at h
  obtain ⟨h1, ⟨k0, k1⟩, f0, f1⟩ := h
  have h1 : (decide (ls.length ≤ 4) && (belB (.int bits) (rm ls.length) && ls.all (plB a c))) = true := h1
  rw [Bool.and_eq_true, Bool.and_eq_true, decide_eq_true_eq, zadj, List.all_eq_true] at h1
  obtain ⟨l4, ⟨b0, b1⟩, al⟩ := h1
  obtain ⟨ss, rfl, hss⟩ := zanq al
  rw [List.length_map] at l4
  rw [List.length_map, zanp l4] at b1
  exact ⟨⟨ss, bits, kept, first⟩, rfl, l4, hss, b0, b1, (by omega : kept = 0 ∨ kept = 1), f0, (by omega : first ≤ kept)⟩
theorem zaqu {a c : Nat} : ∀ {bgs : List BG}, (∀ x ∈ bgs, bkB a c x = true) → ∃ bs : List Bk, bgs = bs.map Bk.g ∧ ∀ b ∈ bs, b.ok a c
 | [], _ => ⟨[], rfl, by simp⟩
 | x :: ls, h => by
  obtain ⟨s, rfl, hs⟩ := zaul (h x (by simp))
  obtain ⟨ss, rfl, hss⟩ := zaqu (bgs := ls) fun y hy => h y (by simp [hy])
  exact ⟨s :: ss, rfl, fun z hz => by
   rcases List.mem_cons.mp hz with rfl | hz
   ·exact hs
   ·exact hss z hz⟩
theorem zaum {s t : Src} (h : sg s = sg t) : s = t := by
 obtain ⟨a, n⟩ := s
 obtain ⟨b, m⟩ := t
 unfold sg at h
 simp only [List.cons.injEq, V.str.injEq, V.int.injEq, and_true] at h
 have e : n = m := by omega
 subst e
 cases a <;> cases b <;> first | rfl | (exact absurd h.1 (by decide +kernel))
theorem zasi {b c : Bk} (h : b.g = c.g) : b = c := by
 obtain ⟨ss, x, y, z⟩ := b
 obtain ⟨tt, x', y', z'⟩ := c
 unfold Bk.g at h
 simp only [BG.bk.injEq] at h
 obtain ⟨h1, rfl, rfl, rfl⟩ := h
 rw [(List.map_inj_right (fun a b => zaum)).mp h1]
theorem zaj9 {bs cs : List Bk} (h : bs.map Bk.g = cs.map Bk.g) : bs = cs := (List.map_inj_right (fun a b => zasi)).mp h
theorem zaev {α α' β : Type} {S : α' → β → Prop} {g : α → α'} : ∀ {xs : List α} {ys : List β}, Paired S (xs.map g) ys → Paired (fun x y => S (g x) y) xs ys
 | [], _, .nil => .nil
 | _ :: _, _, .cons a t => .cons a (zaev t)
section
variable {P : Program} {w : World} {K : PySem.W.Frag} {mg : Str → Option Value} {base : Heap} {f : Addr} {fd : FuncData} {k : Nat}
theorem zac2 : Nd "NoPack" := by decide +kernel
theorem zaja : Nd "is_block" := by decide +kernel
theorem zajb : Nd "has_ring" := by decide +kernel
theorem av30 : AF (defScope (top 30)) ["ins", "blocks", "outs", "counts"] := ⟨by decide +kernel⟩
theorem gl30 : AG (defScope (top 30)) ["is_whole", "NoPack", "is_listed", "len", "all", "has_ring"] := ⟨by decide +kernel⟩
def zag0 : Scope := { kind := PySem.ScopeKind.function, names := [ (PySem.Str.ofString ".0", PySem.NameKind.local), (PySem.Str.ofString "block", PySem.NameKind.local), (PySem.Str.ofString "is_block", PySem.NameKind.globalImplicit), (PySem.Str.ofString "counts", PySem.NameKind.free)], isGenerator := false, isCoroutine := false, more := [] : PySem.Scope }
theorem zanr : CompOk zag0 (defScope (top 30)) (["block"] : List Str) (["ins", "blocks", "outs", "counts"] : List Str) [3] (["block", "counts"] : List Str) := compOk rfl (by decide +kernel) (by decide +kernel) (by decide +kernel) (by decide +kernel) rfl (by decide +kernel)
theorem zans : AK (relab zag0 (defScope (top 30))) ["block"] := ⟨by decide +kernel⟩
theorem zasj : AG (relab zag0 (defScope (top 30))) ["is_block"] := ⟨by decide +kernel⟩
theorem zant : AV (relab zag0 (defScope (top 30))) ["block", "counts"] := ⟨by decide +kernel⟩
def zag1 : Scope := { kind := PySem.ScopeKind.function, names := [ (PySem.Str.ofString ".0", PySem.NameKind.local), (PySem.Str.ofString "out", PySem.NameKind.local), (PySem.Str.ofString "is_place", PySem.NameKind.globalImplicit), (PySem.Str.ofString "counts", PySem.NameKind.free)], isGenerator := false, isCoroutine := false, more := [] : PySem.Scope }
theorem zanu : CompOk zag1 (defScope (top 30)) (["out"] : List Str) (["ins", "blocks", "outs", "counts"] : List Str) [3] (["out", "counts"] : List Str) := compOk rfl (by decide +kernel) (by decide +kernel) (by decide +kernel) (by decide +kernel) rfl (by decide +kernel)
theorem zanv : AK (relab zag1 (defScope (top 30))) ["out"] := ⟨by decide +kernel⟩
theorem zask : AG (relab zag1 (defScope (top 30))) ["is_place"] := ⟨by decide +kernel⟩
theorem zanw : AV (relab zag1 (defScope (top 30))) ["out", "counts"] := ⟨by decide +kernel⟩
def spAskX (CE : Addr) : Sp := fun vs H Q E => ∃ (kd kd2 kd3 : SK) (bl ol : Addr) (ins : Int) (bgs : List BG) (ogs : List (List V)), vs = [.int ins, .ref bl, .ref ol] ∧ AskAt kd kd2 kd3 H bl ol bgs ogs ∧ (∀ n : Nat, ins = (n : Int) → AOk n bgs ogs → ∀ H', Ch [] H H' → Q .non H') ∧ ((∀ n : Nat, ins = (n : Int) → ¬ AOk n bgs ogs) → ∀ H', Ch [] H H' → E (.ref CE) none H')
theorem scAsk : FnScope ["ins", "blocks", "outs", "counts"] ["ins", "blocks", "outs"] (defScope (top 30)) := ⟨rfl, rfl, rfl, by decide +kernel, rfl, by decide +kernel, by decide +kernel⟩
theorem zasl {CE : Addr} (F : Fun K "ask_pack" "ask_pack" (top 30) f fd) (Dis_whole : DefOk P w K mg base CX0 k "is_whole" ["thing"] spWholeG) (Dis_listed : DefOk P w K mg base CX0 k "is_listed" ["thing"] spListed) (Dis_block : DefOk P w K mg base CX0 k "is_block" ["thing", "counts"] spBlockG) (Dis_place : DefOk P w K mg base CX0 k "is_place" ["thing", "counts"] spPlaceG) (Dhas_ring : DefOk P w K mg base CX0 k "has_ring" ["blocks"] spRing) (z_len : mg "len" = none) (z_all : mg "all" = none) (m_NoPack : mg "NoPack" = some (.ref CE)) (X_NoPack : XC K CE) :
  FnOk P w K mg base (CXE P w) (k + 1) f fd ["ins", "blocks", "outs"] (spAskX CE) := by
 have nd := scAsk.nd
 refine F.okE scAsk (fun vs H Q E h => by obtain ⟨kd, kd2, kd3, bl, ol, ins, bgs, ogs, rfl, _⟩ := h; rfl) (fun cdv A outer s H vs Q E hr h => ?_)
 obtain ⟨kd, kd2, kd3, bl, ol, ins, bgs, ogs, rfl, dr, q1, q2⟩ := h
 have hu := zagk hr
 obtain ⟨bps, hb, bb⟩ := dr.b
 obtain ⟨ops, ho, oo⟩ := dr.o
 have lb := Paired.length bb
 have lo := Paired.length oo
 have b12 := dr.lb
 have o12 := dr.lo
 have th : Th H (.int ins) := .int ins
 refine ⟨_, (Pr.h (zaad (zaa5 (zab7 (zab8 (zabn (zaa6 (zaam Dis_whole hr (gl30.g 0 rfl) pass0 (zaaa (qv av30 0 rfl) zaab zaac) zafi))) (zab3 (zaat zao5 (qv av30 0 rfl) zaae (nomark _))))) (zaah (zab9 (gl30.g 1 rfl) m_NoPack X_NoPack (zaaa zabm zaab zaaq) zac2)) zaav) (zaad (zaa5 (zab7 (zab8 (zabn (zaa6 (zaam Dis_listed hr (gl30.g 2 rfl) pass0 (zaaa (qv av30 1 rfl) zaab zaac) zacr))) (zab3 (zabn (zaa6 (zaam Dis_listed hr (gl30.g 2 rfl) pass0 (zaaa (qv av30 2 rfl) zaab zaac) zacr)))))) (zaah (zab9 (gl30.g 1 rfl) m_NoPack X_NoPack (zaaa zabm zaab zaaq) zac2)) zaav) (zaad (zaax (i := 3) nd rfl (av30.l 3 rfl) (zaj0 (zadd zabm (qv av30 0 rfl) (zadd zabm (zaaf zaan (gl30.g 3 rfl) z_len PySem.boot_len (zaaa (qv av30 1 rfl) zaab zaac) zabc zabd) zajz)) rfl rfl (by intro z; cases z) (by decide))) (zaad (zaa5 (zabn (zaa6 (zaaf (zac9 rfl) (gl30.g 4 rfl) z_all zafj (zaaa (zaa7 rfl zanr (zaej K rfl kd (qv av30 1 rfl)) (fun _ _ _ _ _ => (zaap (i := 0) zanr.nd rfl (Or.inl (zans.k 0 rfl)) (Or.inr (zans.k 0 rfl)))) (fun _ _ _ _ _ => zaa9) (fun _ _ _ _ _ => (zaam Dis_block hr (zasj.g 0 rfl) pass0 (zaaa (qw zant 0 rfl) (zaaa (qw zant 1 rfl) zaab zaac) zaac) zaja))) zaab zaa0) zafl zafm))) (zaah (zab9 (gl30.g 1 rfl) m_NoPack X_NoPack (zaaa zabm zaab zaaq) zac2)) zaav) (zaad (zaa5 (zabn (zaa6 (zaaf (zac9 rfl) (gl30.g 4 rfl) z_all zafj (zaaa (zaa7 rfl zanu (zaej K rfl kd3 (qv av30 2 rfl)) (fun _ _ _ _ _ => (zaap (i := 0) zanu.nd rfl (Or.inl (zanv.k 0 rfl)) (Or.inr (zanv.k 0 rfl)))) (fun _ _ _ _ _ => zaa9) (fun _ _ _ _ _ => (zaam Dis_place hr (zask.g 0 rfl) pass0 (zaaa (qw zanw 0 rfl) (zaaa (qw zanw 1 rfl) zaab zaac) zaac) zafk))) zaab zaa0) zafl zafm))) (zaah (zab9 (gl30.g 1 rfl) m_NoPack X_NoPack (zaaa zabm zaab zaaq) zac2)) zaav) (zaah (zaa5 (zaa6 (zaam Dhas_ring hr (gl30.g 5 rfl) pass0 (zaaa (qv av30 1 rfl) zaab zaac) zajb)) (zaah (zab9 (gl30.g 1 rfl) m_NoPack X_NoPack (zaaa zabm zaab zaaq) zac2)) zaav)))))))), ?_⟩
 (try dsimp only [cxOf])
 walk_at "rd"
 by_cases h0 : 0 ≤ ins
 ·obtain ⟨n, rfl⟩ := Int.eq_ofNat_of_zero_le h0
  refine ite2 (fun hc => absurd (by simpa using hc) (by omega)) (fun _ => ?_)
  walk_at "rd"
  rename_i H1 c1
  refine ⟨ho.ch c1, fun H3 c3 => ?_⟩
  have c03 := c1.trans c3
  clear c1 c3 th
  walk_at "rd"
  rename_i cd hcd
  have cn : Ch [] H (upd H3 cd (.dK [])) := c03.trans (Ch.new hcd _)
  refine ⟨(hb.ch cn).or, ?_⟩
  walk_at "rd"
  refine ⟨(show _ = List.map (fun kv => (kV kv.1, kv.2)) (cntK n bgs.length) from by rw [List.length_map, ← lb]; rfl), (by show (2 : Nat) ≤ 15; decide), ?_⟩
  have em : mergeK [] (cntK n bgs.length) = cntK n bgs.length := rfl
  rw [em]
  have c4 : Ch [] H3 (upd (upd H3 cd (.dK [])) cd (.dK (cntK n bgs.length))) := Ch.own hcd (Ch.new hcd _)
  have g4 : (upd (upd H3 cd (.dK [])) cd (.dK (cntK n bgs.length))) cd = some (.dK (cntK n bgs.length)) := zaag
  have c04 := c03.trans c4
  generalize upd (upd H3 cd (.dK [])) cd (.dK (cntK n bgs.length)) = H4 at c4 g4 c04 ⊢
  clear c4 hcd c03 em cn
  have hb4 := hb.ch c04
  have bb4 := zaal (fun _ _ e => BgAt.ch c04 e) bb
  walk_at "rd"
  refine ⟨⟨_, hb4.sq⟩, ?_⟩
  refine zaek (bps.map V.ref) (fun i ys σ H' => Ch [] H4 H' ∧ ys = ((bgs.take i).map (bkB n bgs.length)).map V.bl ∧ ∃ u, σ = [u, some (.ref cd)]) (by rw [sizeLine_eq, List.length_map]; omega) ⟨Ch.refl _ _, rfl, _, rfl⟩ ?_ ?_ ?_
  ·rintro i ys σ H' hi ⟨c, rfl, _⟩
   exact ⟨by simp; omega, (hb4.ch c).sq⟩
  ·rintro i ys σ H' z hz ⟨c, rfl, u, rfl⟩
   obtain ⟨p, t, rfl, et, tp⟩ := zaba bb4 i z hz
   have tp := tp.ch c
   have g5 := c.get g4 (by simp)
   walk_at "rd"
   refine ⟨?_, _, rfl⟩
   rw [List.take_add_one, et]; simp
  rintro ys σ H5 ⟨c5, rfl, _⟩
  rw [List.length_map, ← lb, List.take_length]
  intro D hD
  refine ⟨D, bgs.map (bkB n bgs.length), rfl, by rw [zaag], ?_⟩
  have c06 : Ch [] H (upd H5 D (.lst ((bgs.map (bkB n bgs.length)).map V.bl))) := (c04.trans c5).trans (Ch.new hD _)
  have g6 : (upd H5 D (.lst ((bgs.map (bkB n bgs.length)).map V.bl))) cd = some (.dK (cntK n bgs.length)) := zabq hD (c5.get g4 (by simp))
  generalize upd H5 D (.lst ((bgs.map (bkB n bgs.length)).map V.bl)) = H6 at c06 g6 ⊢
  clear c04 c5 g4 hb4 hD bb4
  by_cases hA : ∀ x ∈ bgs, bkB n bgs.length x = true
  ·rw [show (bgs.map (bkB n bgs.length)).all id = true from by rw [List.all_map]; exact List.all_eq_true.mpr hA]
   have ho6 := ho.ch c06
   have oo6 := zaal (fun _ _ e => PgAt.tu (Tu.same c06) e) oo
   walk_at "rd"
   refine ⟨⟨_, ho6.sq⟩, ?_⟩
   refine zaek (ops.map V.ref) (fun i ys σ H' => H' = H6 ∧ ys = ((ogs.take i).map (plB n bgs.length)).map V.bl ∧ ∃ u, σ = [u, some (.ref cd)]) (by rw [sizeLine_eq, List.length_map]; omega) ⟨rfl, rfl, _, rfl⟩ ?_ ?_ ?_
   ·rintro i ys σ H' hi ⟨rfl, rfl, _⟩
    exact ⟨by simp; omega, ho6.sq⟩
   ·rintro i ys σ H' z hz ⟨rfl, rfl, u, rfl⟩
    obtain ⟨p, t, rfl, et, tp⟩ := zaba oo6 i z hz
    walk_at "rd"
    refine ⟨?_, _, rfl⟩
    rw [List.take_add_one, et]; simp
   rintro ys σ H' ⟨rfl, rfl, _⟩
   rw [List.length_map, ← lo, List.take_length]
   intro D hD
   refine ⟨D, ogs.map (plB n bgs.length), rfl, by rw [zaag], ?_⟩
   have c07 : Ch [] H (upd H' D (.lst ((ogs.map (plB n bgs.length)).map V.bl))) := c06.trans (Ch.new hD _)
   generalize upd H' D (.lst ((ogs.map (plB n bgs.length)).map V.bl)) = H7 at c07 ⊢
   clear ho6 oo6 hD g6
   by_cases hO : ∀ x ∈ ogs, plB n bgs.length x = true
   ·rw [show (ogs.map (plB n bgs.length)).all id = true from by rw [List.all_map]; exact List.all_eq_true.mpr hO]
    obtain ⟨bs, ebs, okb⟩ := zaqu hA
    have el : bs.length = bgs.length := by rw [ebs, List.length_map]
    have hb7 := hb.ch c07
    have bb7 : BsAt kd2 H7 bs bps := zaev (S := BgAt kd2 H7) (g := Bk.g) (by rw [← ebs]; exact zaal (fun _ _ e => BgAt.ch c07 e) bb)
    have okb : ∀ b ∈ bs, b.ok n bs.length := by rw [el]; exact okb
    have l64 : bs.length ≤ 64 := by omega
    walk_at "rd"
    refine ⟨fun ac H8 c8 => ?_, fun ac H8 c8 => ?_⟩
    ·walk_at "rd"
     exact q1 n rfl ⟨hA, hO, fun bs' e => by rw [zaj9 (e.symm.trans ebs)]; exact ac⟩ _ (c07.trans c8)
    ·walk_at "rd"
     exact q2 (fun n' e ok => ac (ok.a bs ebs)) _ (c07.trans c8)
   ·rw [show (ogs.map (plB n bgs.length)).all id = false from by rw [List.all_map]; exact Bool.eq_false_iff.mpr fun z => hO (List.all_eq_true.mp z)]
    walk_at "rd"
    exact q2 (fun n' e ok => hO (by have e' : n = n' := by omega
                                    subst e'
                                    exact ok.o)) _ c07
  ·rw [show (bgs.map (bkB n bgs.length)).all id = false from by rw [List.all_map]; exact Bool.eq_false_iff.mpr fun z => hA (List.all_eq_true.mp z)]
   walk_at "rd"
   exact q2 (fun n' e ok => hA (by have e' : n = n' := by omega
                                   subst e'
                                   exact ok.b)) _ c06
 ·refine ite2 (fun _ => ?_) (fun hc => absurd (by simpa using hc) h0)
  walk_at "rd"
  exact q2 (fun n e => absurd (by omega) h0) _ (Ch.refl _ _)
end
end

section
def fldsP (ins : Nat) (bt ot : Addr) : List (Str × V) := [("ins", .int (ins : Int)), ("blocks", .ref bt), ("outs", .ref ot)]
structure PkT (H : Hp) (bt ot : Addr) (bgs : List BG) (ogs : List (List V)) : Prop where
 b : ∃ ps, H bt = some (.tup (ps.map V.ref)) ∧ Paired (BgAt .tuple H) bgs ps
 o : ∃ ps, H ot = some (.tup (ps.map V.ref)) ∧ Paired (PgAt H) ogs ps
theorem BgAt.tu {H H' : Hp} (k : Tu H H') {t : BG} {p : Addr} (s : BgAt .tuple H t p) : BgAt .tuple H' t p := by
 cases t with
 | odd => obtain ⟨ys, h, n⟩ := s; exact ⟨ys, k _ _ h, n⟩
 | bk ls bits kept first => obtain ⟨lp, ps, h, q, w⟩ := s; exact ⟨lp, ps, k _ _ h, k _ _ q, zaal (fun _ _ e => PgAt.tu k e) w⟩
theorem PkT.tu {H H' : Hp} (k : Tu H H') {bt ot : Addr} {bgs : List BG} {ogs : List (List V)} (s : PkT H bt ot bgs ogs) : PkT H' bt ot bgs ogs :=
 ⟨s.b.imp fun _ h => ⟨k _ _ h.1, zaal (fun _ _ e => BgAt.tu k e) h.2⟩, s.o.imp fun _ h => ⟨k _ _ h.1, zaal (fun _ _ e => PgAt.tu k e) h.2⟩⟩
theorem SqX.ob {kd : SK} {H H' : Hp} {a y C d : Addr} {fs : List (Str × V)} {xs : List V} (h : SqX kd H a xs) (c : Ch [y] H H') (hy : H y = some (.ins C d fs)) : SqX kd H' a xs := by
 cases kd with
 | list => exact c.get h (by simpa using zabl h hy (by intro z; cases z))
 | tuple => exact c.get h (by simpa using zabl h hy (by intro z; cases z))
theorem BgAt.ob {kd : SK} {H H' : Hp} {y C d : Addr} {fs : List (Str × V)} {t : BG} {p : Addr} (s : BgAt kd H t p) (c : Ch [y] H H') (hy : H y = some (.ins C d fs)) : BgAt kd H' t p := by
 have k : Tu H H' := Tu.ch c hy (fun _ z => by cases z)
 cases t with
 | odd => obtain ⟨ys, h, n⟩ := s; exact ⟨ys, k _ _ h, n⟩
 | bk ls bits kept first => obtain ⟨lp, ps, h, q, w⟩ := s; exact ⟨lp, ps, k _ _ h, q.ob c hy, zaal (fun _ _ e => PgAt.tu k e) w⟩
theorem AskAt.ob {kd kd2 kd3 : SK} {H H' : Hp} {y C d : Addr} {fs : List (Str × V)} {bl ol : Addr} {bgs : List BG} {ogs : List (List V)} (s : AskAt kd kd2 kd3 H bl ol bgs ogs) (c : Ch [y] H H') (hy : H y = some (.ins C d fs)) : AskAt kd kd2 kd3 H' bl ol bgs ogs := by
 have k : Tu H H' := Tu.ch c hy (fun _ z => by cases z)
 exact ⟨s.b.imp fun _ h => ⟨h.1.ob c hy, zaal (fun _ _ e => BgAt.ob e c hy) h.2⟩, s.o.imp fun _ h => ⟨h.1.ob c hy, zaal (fun _ _ e => PgAt.tu k e) h.2⟩, s.lb, s.lo⟩
theorem AskAt.ch {kd kd2 kd3 : SK} {H H' : Hp} {bl ol : Addr} {bgs : List BG} {ogs : List (List V)} (s : AskAt kd kd2 kd3 H bl ol bgs ogs) (c : Ch [] H H') : AskAt kd kd2 kd3 H' bl ol bgs ogs :=
 ⟨s.b.imp fun _ h => ⟨h.1.ch c, zaal (fun _ _ e => BgAt.ch c e) h.2⟩, s.o.imp fun _ h => ⟨h.1.ch c, zaal (fun _ _ e => PgAt.tu (Tu.same c) e) h.2⟩, s.lb, s.lo⟩
structure BC (H0 H' : Hp) (ts : List BG) (ys : List V) : Prop where
 c : Ch [] H0 H'
 b : ∃ us : List Addr, ys = us.map V.ref ∧ Paired (BgAt .tuple H') ts us
section
variable {P : Program} {w : World} {K : PySem.W.Frag} {mg : Str → Option Value} {base : Heap} {f : Addr} {fd : FuncData} {k : Nat}
theorem zajc : Nd "ask_pack" := by decide +kernel
theorem gl31m0 : AG (defScope (inClass (top 31) 0)) ["ask_pack", "tuple"] := ⟨by decide +kernel⟩
theorem av31m0 : AF (defScope (inClass (top 31) 0)) ["self", "ins", "blocks", "outs"] := ⟨by decide +kernel⟩
def zadz : Scope := { kind := PySem.ScopeKind.function, names := [ (PySem.Str.ofString ".0", PySem.NameKind.local), (PySem.Str.ofString "sources", PySem.NameKind.local), (PySem.Str.ofString "bits", PySem.NameKind.local), (PySem.Str.ofString "kept", PySem.NameKind.local), (PySem.Str.ofString "first", PySem.NameKind.local), (PySem.Str.ofString "tuple", PySem.NameKind.globalImplicit)], isGenerator := false, isCoroutine := false, more := [] : PySem.Scope }
theorem zade : CompOk zadz (defScope (inClass (top 31) 0)) (["sources", "bits", "kept", "first"] : List Str) (["self", "ins", "blocks", "outs"] : List Str) [] (["sources", "bits", "kept", "first"] : List Str) := compOk rfl (by decide +kernel) (by decide +kernel) (by decide +kernel) (by decide +kernel) rfl (by decide +kernel)
theorem zace : AK (relab zadz (defScope (inClass (top 31) 0))) ["sources", "bits", "kept", "first"] := ⟨by decide +kernel⟩
theorem zad0 : AV (relab zadz (defScope (inClass (top 31) 0))) ["sources", "bits", "kept", "first"] := ⟨by decide +kernel⟩
theorem zanx : AG (relab zadz (defScope (inClass (top 31) 0))) ["tuple"] := ⟨by decide +kernel⟩
def spPackX (C CE : Addr) : Sp := fun vs H Q E => ∃ (kd kd2 kd3 : SK) (x dx bl ol : Addr) (ins : Int) (bgs : List BG) (ogs : List (List V)), vs = [.ref x, .int ins, .ref bl, .ref ol] ∧ H x = some (.ins C dx []) ∧ AskAt kd kd2 kd3 H bl ol bgs ogs ∧
 (∀ n : Nat, ins = (n : Int) → AOk n bgs ogs → ∀ bt ot H', Ch [x] H H' → H' x = some (.ins C dx (fldsP n bt ot)) → PkT H' bt ot bgs ogs → Q .non H') ∧ ((∀ n : Nat, ins = (n : Int) → ¬ AOk n bgs ogs) → ∀ H', Ch [x] H H' → E (.ref CE) none H')
theorem scPack : FnScope ["self", "ins", "blocks", "outs"] ["self", "ins", "blocks", "outs"] (defScope (inClass (top 31) 0)) := ⟨rfl, rfl, rfl, by decide +kernel, rfl, by decide +kernel, by decide +kernel⟩
theorem zap8 {C CE : Addr} (F : Fun K "__init__" "Pack.__init__" (inClass (top 31) 0) f fd) (cl : Cls K C) (nI : NoAttr K C "ins") (nB : NoAttr K C "blocks") (nO : NoAttr K C "outs") (Dask_pack : DefOk P w K mg base (CXE P w) k "ask_pack" ["ins", "blocks", "outs"] (spAskX CE)) (z_tuple : mg "tuple" = none) :
  FnOk P w K mg base (CXE P w) (k + 1) f fd ["self", "ins", "blocks", "outs"] (spPackX C CE) := by
 have nd := scPack.nd
 refine F.okE scPack (fun vs H Q E h => by obtain ⟨kd, kd2, kd3, x, dx, bl, ol, ins, bgs, ogs, rfl, _⟩ := h; rfl) (fun cdv A outer s H vs Q E hr h => ?_)
 obtain ⟨kd, kd2, kd3, x, dx, bl, ol, ins, bgs, ogs, rfl, hx, dr, q1, q2⟩ := h
 refine ⟨_, (Pr.h (zaad (zabu (zaam Dask_pack hr (gl31m0.g 0 rfl) passE (zaaa (qv av31m0 1 rfl) (zaaa (qv av31m0 2 rfl) (zaaa (qv av31m0 3 rfl) zaab zaac) zaac) zaac) zajc)) (zaad (zac7 (qv av31m0 0 rfl) (qv av31m0 1 rfl) rfl) (zaad (zac7 (qv av31m0 0 rfl) (zabe zac3 (gl31m0.g 1 rfl) z_tuple zabw (zaaa (zaa7 rfl zade (zaej K rfl kd (qv av31m0 2 rfl)) (fun _ _ _ _ _ => (zack K 4 rfl rfl (zaa3 (zaap (i := 0) zade.nd rfl (Or.inl (zace.k 0 rfl)) (Or.inr (zace.k 0 rfl))) (zaa3 (zaap (i := 1) zade.nd rfl (Or.inl (zace.k 1 rfl)) (Or.inr (zace.k 1 rfl))) (zaa3 (zaap (i := 2) zade.nd rfl (Or.inl (zace.k 2 rfl)) (Or.inr (zace.k 2 rfl))) (zaa3 (zaap (i := 3) zade.nd rfl (Or.inl (zace.k 3 rfl)) (Or.inr (zace.k 3 rfl))) zacc)))))) (fun _ _ _ _ _ => zaa9) (fun _ _ _ _ _ => (zach (zaaa (zabe (zaf5 K rfl) (zanx.g 0 rfl) z_tuple zabw (zaaa (qw zad0 0 rfl) zaab zaac) zabx zaby) (zaaa (qw zad0 1 rfl) (zaaa (qw zad0 2 rfl) (zaaa (qw zad0 3 rfl) zaab zaac) zaac) zaac) zabf)))) zaab zaa0) zabx zaby) rfl) (zaah (zac7 (qv av31m0 0 rfl) (zabe zac3 (gl31m0.g 1 rfl) z_tuple zabw (zaaa (qv av31m0 3 rfl) zaab zaac) zabx zaby) rfl)))))), ?_⟩
 (try dsimp only [cxOf])
 walk_at "rd"
 refine ⟨fun n en ok H1 c1 => ?_, fun no H1 c1 => q2 no _ c1.wk⟩
 subst en
 have hx1 : H1 x = some (.ins C dx []) := c1.get hx (by simp)
 walk_at "rd"
 have dr2 := (dr.ch c1).ob (Ch.put (o := HO.ins C dx (putF "ins" (.int (n : Int)) []))) hx1
 have hx2 : (upd H1 x (.ins C dx (putF "ins" (.int (n : Int)) []))) x = some (.ins C dx (putF "ins" (.int (n : Int)) [])) := zaag
 have c2 : Ch [x] H (upd H1 x (.ins C dx (putF "ins" (.int (n : Int)) []))) := c1.wk.trans Ch.put
 obtain ⟨tps, ht, tt⟩ := dr2.b
 refine ⟨⟨_, ht.sq⟩, ?_⟩
 generalize upd H1 x (.ins C dx (putF "ins" (.int (n : Int)) [])) = H2 at hx2 c2 dr2 ht tt ⊢
 clear hx1 c1 dr
 have lt := Paired.length tt
 have t12 := dr2.lb
 refine zaek (tps.map V.ref) (fun i ys σ H' => BC H2 H' (bgs.take i) ys ∧ ∃ u0 u1 u2 u3, σ = [u0, u1, u2, u3]) (by rw [sizeLine_eq, List.length_map]; omega) ⟨⟨Ch.refl _ _, [], rfl, .nil⟩, _, _, _, _, rfl⟩ ?_ ?_ ?_
 ·rintro i ys σ H' hi ⟨⟨c, us, rfl, uu⟩, _⟩
  refine ⟨?_, (ht.ch c).sq⟩
  rw [List.length_map, ← Paired.length uu, List.length_take]
  omega
 ·rintro i ys σ H' z hz ⟨⟨c, us, rfl, uu⟩, u0, u1, u2, u3, rfl⟩
  obtain ⟨p, t, rfl, et, tp⟩ := zaba tt i z hz
  have okt := ok.b t (List.mem_of_getElem? et)
  cases t with
  | odd => cases okt
  | bk ls bits kept first =>
   obtain ⟨lp, sps, hp, hs, ws⟩ := tp.ch c
   cases kd2 with
   | list =>
    have hs : H' lp = some (.lst (sps.map V.ref)) := hs
    walk_at "rd"
    rename_i T1 h1 T2 h2
    have cT : Ch [] H' (upd (upd H' T1 (.tup (sps.map V.ref))) T2 (.tup [.ref T1, .int bits, .int kept, .int first])) := (Ch.new h1 _).trans (Ch.new h2 _)
    refine ⟨⟨c.trans cT, us ++ [T2], by simp, ?_⟩, _, _, _, _, rfl⟩
    rw [List.take_add_one, et]
    exact zaca ⟨T1, sps, zaag, zabq h2 zaag, zaal (fun _ _ e => PgAt.tu (Tu.same cT) e) ws⟩ (zaal (fun _ _ => BgAt.tu (Tu.same cT)) uu)
   | tuple =>
    have hs : H' lp = some (.tup (sps.map V.ref)) := hs
    walk_at "rd"
    rename_i T2 h2
    have cT : Ch [] H' (upd H' T2 (.tup [.ref lp, .int bits, .int kept, .int first])) := Ch.new h2 _
    refine ⟨⟨c.trans cT, us ++ [T2], by simp, ?_⟩, _, _, _, _, rfl⟩
    rw [List.take_add_one, et]
    exact zaca ⟨lp, sps, zaag, zabq h2 hs, zaal (fun _ _ e => PgAt.tu (Tu.same cT) e) ws⟩ (zaal (fun _ _ => BgAt.tu (Tu.same cT)) uu)
 rintro ys σ H3 ⟨⟨c3, us, rfl, uu⟩, _⟩
 rw [List.length_map, ← lt, List.take_length] at uu
 intro D hD
 have hx3 : H3 x = some (.ins C dx (putF "ins" (.int (n : Int)) [])) := c3.get hx2 (by simp)
 have dr3 := dr2.ch c3
 obtain ⟨ops, ho, oo⟩ := dr3.o
 have cA1 : Ch [] H3 (upd H3 D (.lst (us.map V.ref))) := Ch.new hD _
 cases kd3 with
 | list =>
  have ho : H3 ol = some (.lst (ops.map V.ref)) := ho
  have nox : ol ≠ x := zabl ho hx3 (by intro z; cases z)
  walk_at "rd"
  rename_i tb h1 to h3
  have cA : Ch [] H3 (upd (upd H3 D (.lst (us.map V.ref))) tb (.tup (us.map V.ref))) := cA1.trans (Ch.new h1 _)
  have ntx : tb ≠ x := (zaao (zabq hD hx3) h1).symm
  have nox2 : to ≠ x := fun z => by rw [z, zaag] at h3; cases h3
  have cF : Ch [x] H3 (upd (upd (upd (upd (upd H3 D (.lst (us.map V.ref))) tb (.tup (us.map V.ref))) x (.ins C dx (putF "blocks" (.ref tb) (putF "ins" (.int (n : Int)) [])))) to (.tup (ops.map V.ref))) x (.ins C dx (putF "outs" (.ref to) (putF "blocks" (.ref tb) (putF "ins" (.int (n : Int)) []))))) :=
   ((cA.wk.trans Ch.put).trans (Ch.new h3 _)).trans Ch.put
  have tu := Tu.ch cF hx3 (fun _ z => by cases z)
  exact q1 n rfl ok tb to _ ((c2.trans c3.wk).trans cF) zaag ⟨⟨us, zabg ntx (zabq h3 (zabg ntx zaag)), zaal (fun _ _ => BgAt.tu tu) uu⟩, ⟨ops, zabg nox2 zaag, zaal (fun _ _ e => PgAt.tu tu e) oo⟩⟩
 | tuple =>
  have ho : H3 ol = some (.tup (ops.map V.ref)) := ho
  have nox : ol ≠ x := zabl ho hx3 (by intro z; cases z)
  walk_at "rd"
  rename_i tb h1
  have cA : Ch [] H3 (upd (upd H3 D (.lst (us.map V.ref))) tb (.tup (us.map V.ref))) := cA1.trans (Ch.new h1 _)
  have ntx : tb ≠ x := (zaao (zabq hD hx3) h1).symm
  have cF : Ch [x] H3 (upd (upd (upd (upd H3 D (.lst (us.map V.ref))) tb (.tup (us.map V.ref))) x (.ins C dx (putF "blocks" (.ref tb) (putF "ins" (.int (n : Int)) [])))) x (.ins C dx (putF "outs" (.ref ol) (putF "blocks" (.ref tb) (putF "ins" (.int (n : Int)) []))))) :=
   (cA.wk.trans Ch.put).trans Ch.put
  have tu := Tu.ch cF hx3 (fun _ z => by cases z)
  exact q1 n rfl ok tb ol _ ((c2.trans c3.wk).trans cF) zaag ⟨⟨us, zabg ntx (zabg ntx zaag), zaal (fun _ _ => BgAt.tu tu) uu⟩, ⟨ops, tu _ _ ho, zaal (fun _ _ e => PgAt.tu tu e) oo⟩⟩
end
end

section
def spNext (K : PySem.W.Frag) : Sp := fun vs H Q _ => ∃ (a b : Addr) (ns : List Int) (c : Int), vs = [.ref a, .ref b] ∧ Scr K H a ns ∧ H b = some (.lst [.int c]) ∧ 0 ≤ c ∧ c < 2 ^ 60 ∧
 ∀ (n : Int) (H' : Hp), 0 ≤ n → n < 2147483629 → Ch [b] H H' → H' b = some (.lst [.int (c + 1)]) → Q (.int n) H'
section
variable {P : Program} {w : World} {K : PySem.W.Frag} {mg : Str → Option Value} {base : Heap} {f : Addr} {fd : FuncData} {k : Nat}
theorem av37 : AF (defScope (top 37)) ["_law_script", "_law_at", "_law_cell", "_law_figures", "_law_k", "_law_m"] := ⟨by decide +kernel⟩
theorem gl37 : AG (defScope (top 37)) ["len", "range"] := ⟨by decide +kernel⟩
theorem scNext : FnScope ["_law_script", "_law_at", "_law_cell", "_law_figures", "_law_k", "_law_m"] ["_law_script", "_law_at"] (defScope (top 37)) := ⟨rfl, rfl, rfl, by decide +kernel, rfl, by decide +kernel, by decide +kernel⟩
theorem zasm (F : Fun K "_law_next" "_law_next" (top 37) f fd) (z_len : mg "len" = none) (z_range : mg "range" = none) :
  FnOk P w K mg base CX0 (k + 1) f fd ["_law_script", "_law_at"] (spNext K) := by
 have nd := scNext.nd
 refine F.ok scNext (fun vs H Q E h => ?_) (fun cdv A outer s H vs Q E hr h => ?_)
 ·obtain ⟨a, b, ns, c, rfl, _⟩ := h
  rfl
 obtain ⟨a, b, ns, c, rfl, hS, hb, h0, h1, q⟩ := h
 refine ⟨_, (Pr.h (zaad (zary (zaaz zaeq (zaar zaa4 (qv av37 1 rfl) zaae (fun _ _ => rfl)) zaae) (zarx (qv av37 1 rfl) zaae zapd)) (zaad (zaax (i := 2) nd rfl (av37.l 2 rfl) zaae) (zac6 (zaa5 (zaat zakf (zaaf zaan (gl37.g 0 rfl) z_len PySem.boot_len (zaaa (qv av37 0 rfl) zaab zaac) zabc zabd) zaae (nomark _)) (zaah (zaax (i := 2) nd rfl (av37.l 2 rfl) (zaar zaa4 (qv av37 0 rfl) (zaaz zab6 (zaar zaa4 (qv av37 1 rfl) zaae (fun _ _ => rfl)) (zaaf zaan (gl37.g 0 rfl) z_len PySem.boot_len (zaaa (qv av37 0 rfl) zaab zaac) zabc zabd)) (fun _ _ => rfl)))) zaav) (zac6 (zaa5 (zab7 (zafb (zaat zakf (zaaf zaan (gl37.g 0 rfl) z_len PySem.boot_len (zaaa (qv av37 0 rfl) zaab zaac) zabc zabd) zaae (nomark _)) (zae1 (zaat zacs (zaaz zab6 (zaar zaa4 (qv av37 0 rfl) zaae (fun _ _ => rfl)) zaae) zaae (nomark _))))) (zaad (zaax (i := 3) nd rfl (av37.l 3 rfl) (qv av37 2 rfl)) (zaad (zabp PassesOwn.never rfl (zabk (gl37.g 1 rfl) z_range (zaaa (zaaz zab6 (zaaz zac4 (zaar zaa4 (qv av37 1 rfl) zaae (fun _ _ => rfl)) (zaaf zaan (gl37.g 0 rfl) z_len PySem.boot_len (zaaa (qv av37 0 rfl) zaab zaac) zabc zabd)) zaae) zaab zacb)) (zaap (i := 4) nd rfl (av37.l 4 rfl)) (zaah (zaax (i := 3) nd rfl (av37.l 3 rfl) (zaaz zac4 (qv av37 3 rfl) zaae)))) (zaah (zaa5 (zab7 (zab8 (zaat zaes (qv av37 3 rfl) (zach (zaaa zaae (zaaa (zaua zatu zaae) zaab zako) zaaq)) rfl) (zab3 (zaat zao5 (zaar zaa4 (qv av37 1 rfl) zaae (fun _ _ => rfl)) (zaaf zaan (gl37.g 0 rfl) z_len PySem.boot_len (zaaa (qv av37 0 rfl) zaab zaac) zabc zabd) (nomark _))))) (zaah (zaas (zaaz zab6 (qv av37 3 rfl) zaae))) zaav)))) zaav) (zaad (zaax (i := 5) nd rfl (av37.l 5 rfl) (zaaz zab6 (zaaz zaer (zaaz zaeq (zaaz zaeq (zaaz zab6 (qv av37 2 rfl) zaae) (zaaz zaer (zaaz zaer (zaar zaa4 (qv av37 1 rfl) zaae (fun _ _ => rfl)) (zaar zaa4 (qv av37 1 rfl) zaae (fun _ _ => rfl))) zaae)) zaae) zaae) zaae)) (zaad (zaax (i := 5) nd rfl (av37.l 5 rfl) (zaaz zab6 (zaaz zaer (qv av37 5 rfl) (qv av37 5 rfl)) zaae)) (zaah (zaas (zaaz zab6 (zaaz zaer (zaaz zaeq (qv av37 5 rfl) (zaaz zaer (zaar zaa4 (qv av37 1 rfl) zaae (fun _ _ => rfl)) zaae)) zaae) zaae)))))))))), ?_⟩
 have h63 : ns.length ≤ 63 := hS.1
 (try dsimp only [cxOf])
 walk_at "rd"
 refine zaeu (fun σ H' => ∃ n : Int, σ = [some (.ref a), some (.ref b), some (.int n), none, none, none] ∧ Ch [b] H H' ∧ H' b = some (.lst [.int (c + 1)])) ?_ ?_
 ·walk_at "rd"
  refine ite2 (fun hc => ?_) (fun hc => ?_)
  ·have hc' : 0 < (ns.length : Int) := by simpa using hc
   have e1 : 0 ≤ (c + 1) % (ns.length : Int) := Int.emod_nonneg _ (by omega)
   have e2 : (c + 1) % (ns.length : Int) < (ns.length : Int) := Int.emod_lt_of_pos _ hc'
   obtain ⟨n, hn⟩ := zajx e1 e2
   walk_at "rd"
  ·walk_at "rd"
 ·rintro σ H1 ⟨n, rfl, c1, b1⟩
  have hS1 : Scr K H1 a ns := hS.ch hb c1
  refine zaeu (fun σ H' => ∃ u v w, σ = [some (.ref a), some (.ref b), some (.int n), u, v, w] ∧ Ch [b] H H' ∧ H' b = some (.lst [.int (c + 1)])) ?_ ?_
  ·walk_at "rd"
   refine ite2 (fun hc => ?_) (fun hc => iteF ?_)
   ·have hc' : 0 < (ns.length : Int) := by simpa using hc
    obtain ⟨n0, hn0⟩ := zajx (ns := ns) (i := 0) (by omega) hc'
    walk_at "rd"
    refine ite2 (fun hd => ?_) (fun hd => ?_)
    ·walk_at "rd"
     refine zacl (fun i σ H' => H' = H1 ∧ ∃ g kk, σ = [some (.ref a), some (.ref b), some (.int n), some (.int g), kk, none]) ⟨rfl, _, _, rfl⟩ ?_ ?_
     ·rintro i σ H' hi ⟨rfl, g, kk, rfl⟩
      walk_at "rd"
     ·rintro σ H' ⟨rfl, g, kk, rfl⟩
      walk_at "rd"
      refine ite2 (fun hd => iteT ?_) (fun hd => ?_)
      ·walk_at "rd"
       exact q _ _ (Int.emod_nonneg _ (by decide)) (Int.lt_of_lt_of_le (Int.emod_lt_of_pos _ (by decide)) (by decide)) (c1.trans (Ch.new (by assumption) _)) (by walk_at "get")
      ·walk_at "rd"
       refine ite2 (fun he => ?_) (fun he => ?_)
       ·walk_at "rd"
        exact q _ _ (Int.emod_nonneg _ (by decide)) (Int.lt_of_lt_of_le (Int.emod_lt_of_pos _ (by decide)) (by decide)) (c1.trans (Ch.new (by assumption) _)) (by walk_at "get")
       ·walk_at "rd"
    ·walk_at "rd"
   ·walk_at "rd"
  ·rintro σ H2 ⟨u, v, w, rfl, c2, b2⟩
   walk_at "rd"
   exact q _ _ (Int.emod_nonneg _ (by decide)) (Int.emod_lt_of_pos _ (by decide)) c2 b2
end
end

section
theorem zavi (z : Int) : V.int (z % 2) = bV (decide (z % 2 = 1)) := by
 have : z % 2 = 0 ∨ z % 2 = 1 := by omega
 rcases this with h | h <;> rw [h] <;> rfl
theorem zaun {H H2 : Hp} {b p : Addr} {o : HO} (c : Ch [b] H H2) (hb : H2 b = some o) (h : H2 p = none) : H p = none := by
 cases e : H p with
 | none => rfl
 | some o' =>
  by_cases z : p = b
  ·rw [z, hb] at h; cases h
  ·rw [c.get e (by simpa using z)] at h; cases h
structure DQ (K : PySem.W.Frag) (H H' : Hp) (a b : Addr) (ns : List Int) (c : Int) : Prop where
 ch : Ch [b] H H'
 hS : Scr K H' a ns
 hb : H' b = some (.lst [.int c])
section
variable {K : PySem.W.Frag} {H H' H'' : Hp} {a b q : Addr} {ns : List Int} {c c' : Int}
theorem DQ.next (d : DQ K H H' a b ns c) (e : Ch [b] H' H'') (h : H'' b = some (.lst [.int c'])) : DQ K H H'' a b ns c' := ⟨d.ch.trans e, d.hS.ch d.hb e, h⟩
theorem DQ.new (d : DQ K H H' a b ns c) (e : Ch [] H' H'') : DQ K H H'' a b ns c := ⟨d.ch.trans e.wk, d.hS.same e, e.get d.hb (by simp)⟩
theorem DQ.own {xs zs : List V} (d : DQ K H H' a b ns c) (h0 : H q = none) (hq : H' q = some (.lst xs)) (nb : b ≠ q) : DQ K H (upd H' q (.lst zs)) a b ns c := ⟨Ch.own h0 d.ch, d.hS.ch hq Ch.put, zabg nb d.hb⟩
theorem DQ.free (d : DQ K H H' a b ns c) (h : H' q = none) : H q = none := zaun d.ch d.hb h
theorem DQ.trans (d : DQ K H H' a b ns c) (e : DQ K H' H'' a b ns c') : DQ K H H'' a b ns c' := ⟨d.ch.trans e.ch, e.hS, e.hb⟩
end
structure CI (c c' : Int) (j : Int) : Prop where
 lo : c' ≤ c
 hi : c ≤ c' + j
section
variable {P : Program} {w : World} {K : PySem.W.Frag} {mg : Str → Option Value} {base : Heap} {f : Addr} {fd : FuncData} {k : Nat}
theorem zab1 : Nd "_law_next" := by decide +kernel
theorem av38 : AF (defScope (top 38)) ["_law_script", "_law_at", "_law_many", "_law_m", "_law_bits", "_law_k"] := ⟨by decide +kernel⟩
theorem gl38 : AG (defScope (top 38)) ["_law_next", "range"] := ⟨by decide +kernel⟩
structure SB (K : PySem.W.Frag) (H H' : Hp) (a b : Addr) (ns : List Int) (c : Int) (l : Addr) (bs : List Bool) : Prop where
 d : ∃ c', DQ K H H' a b ns c' ∧ c ≤ c' ∧ c' ≤ c + 100
 f : H l = none
 g : H' l = some (.lst (bs.map bV))
def spBits (K : PySem.W.Frag) : Sp := fun vs H Q _ => ∃ (a b : Addr) (ns : List Int) (c : Int) (many : Nat), vs = [.ref a, .ref b, .int (many : Int)] ∧ Scr K H a ns ∧ H b = some (.lst [.int c]) ∧ 0 ≤ c ∧ c < 2 ^ 55 ∧ many ≤ 60 ∧ ∀ (l : Addr) (bs : List Bool) (H' : Hp), SB K H H' a b ns c l bs → bs.length = many → Q (.ref l) H'
theorem scBits : FnScope ["_law_script", "_law_at", "_law_many", "_law_m", "_law_bits", "_law_k"] ["_law_script", "_law_at", "_law_many"] (defScope (top 38)) := ⟨rfl, rfl, rfl, by decide +kernel, rfl, by decide +kernel, by decide +kernel⟩
theorem zasn (F : Fun K "_law_some_bits" "_law_some_bits" (top 38) f fd) (D_law_next : DefOk P w K mg base CX0 k "_law_next" ["_law_script", "_law_at"] (spNext K)) (z_range : mg "range" = none) : FnOk P w K mg base CX0 (k + 1) f fd ["_law_script", "_law_at", "_law_many"] (spBits K) := by
 have nd := scBits.nd
 refine F.ok scBits (fun vs H Q E h => by obtain ⟨a, b, ns, c, many, rfl, _⟩ := h; rfl) (fun cdv A outer s H vs Q E hr h => ?_)
 obtain ⟨a, b, ns, c, many, rfl, hS, hb, h0, h1, hm, q⟩ := h
 refine ⟨_, (Pr.h (zaad (zaax (i := 3) nd rfl (av38.l 3 rfl) (zaam D_law_next hr (gl38.g 0 rfl) pass0 (zaaa (qv av38 0 rfl) (zaaa (qv av38 1 rfl) zaab zaac) zaac) zab1)) (zaad (zaax (i := 4) nd rfl (av38.l 4 rfl) (zabz zaab)) (zaad (zabp PassesOwn.never rfl (zabk (gl38.g 1 rfl) z_range (zaaa (qv av38 2 rfl) zaab zaac)) (zaap (i := 5) nd rfl (av38.l 5 rfl)) (zac6 (zaa5 (zaat zacs (zaaz zab6 (qv av38 5 rfl) zaae) zaae (nomark _)) (zaah (zaax (i := 3) nd rfl (av38.l 3 rfl) (zaam D_law_next hr (gl38.g 0 rfl) pass0 (zaaa (qv av38 0 rfl) (zaaa (qv av38 1 rfl) zaab zaac) zaac) zab1))) zaav) (zaad (zabu (zafa PySem.F.plainAttrs_list PySem.F.slot_list_append PySem.F.type_list_append zacm (qv av38 4 rfl) (zaaa (zaaz zab6 (qv av38 3 rfl) zaae) zaab zacb))) (zaah (zaax (i := 3) nd rfl (av38.l 3 rfl) (zaaz zac4 (qv av38 3 rfl) zaae)))))) (zaah (zaas (qv av38 4 rfl))))))), ?_⟩
 (try dsimp only [cxOf])
 walk_at "rd"
 rename_i m H1 m0 m1 c1 b1 l hl
 have nbl : b ≠ l := zaao b1 hl
 have d1 : DQ K H H1 a b ns (c + 1) := ⟨c1, hS.ch hb c1, b1⟩
 have fl : H l = none := d1.free hl
 refine zacl (fun i σ H' => ∃ (m' c' : Int) (bs : List Bool) (u : Option V), σ = [some (.ref a), some (.ref b), some (.int (many : Int)), some (.int m'), some (.ref l), u] ∧ 0 ≤ m' ∧ DQ K H H' a b ns c' ∧ H' l = some (.lst (bs.map bV)) ∧ bs.length = i ∧ CI c' (c + 1) (i : Nat)) ⟨m, c + 1, [], _, rfl, m0, d1.new (Ch.new hl _), zaag, rfl, by omega, by simp⟩ ?_ ?_
 ·rintro i σ H' hi ⟨m', c', bs, u, rfl, m0', d, g, lb, ci⟩
  have hi : i < many := by simpa using hi
  have ci1 := ci.lo
  have ci2 := ci.hi
  have hS' := d.hS
  have hb' := d.hb
  walk_at "rd"
  refine zaeu (fun σ H2 => ∃ (m' c' : Int), σ = [some (.ref a), some (.ref b), some (.int (many : Int)), some (.int m'), some (.ref l), some (.int (0 + (i : Int)))] ∧ 0 ≤ m' ∧ DQ K H H2 a b ns c' ∧ H2 l = some (.lst (bs.map bV)) ∧ CI c' (c + 1) (i + 1 : Nat)) ?_ ?_
  ·walk_at "rd"
   refine ite2 (fun hc => ?_) (fun hc => ?_)
   ·have e29 : (0 + (i : Int)) % 30 = 29 := by simpa using hc
    walk_at "rd"
    rename_i m2 H2 n0 n1 c2 b2
    exact ⟨d.next c2 b2, c2.get g (by simpa using nbl.symm), by omega, by omega⟩
   ·walk_at "rd"
    exact ⟨by omega, by omega⟩
  ·rintro σ H2 ⟨m2, c2, rfl, m20, d2, g2, ci'⟩
   have lb2 : (bs.map bV).length ≤ 60 := by rw [List.length_map]; omega
   walk_at "rd"
   refine ⟨d2.own fl g2 nbl, (show _ = some (HO.lst ((bs ++ [decide (m2 % 2 = 1)]).map bV)) from by rw [zaag, List.map_append, List.map_singleton, ← zavi]), by simp [lb], ci'⟩
 ·rintro σ H' ⟨m', c', bs, u, rfl, m0', d, g, lb, ci⟩
  have lb : bs.length = many := by simpa using lb
  have ci1 := ci.lo
  have ci2 := ci.hi
  walk_at "rd"
  exact q l bs _ ⟨⟨c', d, by omega, by omega⟩, fl, g⟩ lb
end
end

section
def num : List Bool → Nat
 | [] => 0
 | b :: r => (if b then 1 else 0) + 2 * num r
def tbit (bits : Int) (bs : List Bool) : Bool := decide (bits / 2 ^ num bs % 2 = 1)
def shl : List Bool → Nat → List Int
 | [], _ => []
 | b :: r, j => bi b * 2 ^ j :: shl r (j + 1)
theorem zany : ∀ (bs : List Bool) (j : Nat), (shl bs j).length = bs.length
 | [], _ => rfl
 | b :: r, j => by simp [shl, zany r]
theorem zanz : ∀ (bs : List Bool) (j i : Nat) (b : Bool), bs[i]? = some b → (shl bs j)[i]? = some (bi b * 2 ^ (j + i))
 | [], _, i, b, h => by simp at h
 | a :: r, j, 0, b, h => by simp at h; subst h; rfl
 | a :: r, j, i + 1, b, h => by
  have := zanz r (j + 1) i b (by simpa using h)
  rw [show j + (i + 1) = j + 1 + i by omega]
  simpa [shl] using this
theorem zan0 : ∀ (bs : List Bool) (j : Nat), (shl bs j).sum = (num bs : Int) * 2 ^ j
 | [], j => by simp [shl, num]
 | b :: r, j => by
  rw [shl, List.sum_cons, zan0 r (j + 1), Int.pow_succ, num]
  cases b <;> simp only [bi, if_true, if_false, Bool.false_eq_true] <;> push_cast
  ·rw [Int.zero_mul, Int.zero_add, Int.mul_comm (2 ^ j) 2, ← Int.mul_assoc, Int.mul_comm (num r : Int) 2, Int.zero_add]
  ·rw [Int.add_mul, Int.mul_comm (2 ^ j) 2, ← Int.mul_assoc, Int.mul_comm (num r : Int) 2]
theorem zaqv (z : Int) : V.int (z % 2) = bV (decide (z % 2 = 1)) := by
 have : z % 2 = 0 ∨ z % 2 = 1 := by omega
 rcases this with h | h <;> rw [h] <;> rfl
section
variable {P : Program} {w : World} {K : PySem.W.Frag} {mg : Str → Option Value} {base : Heap} {f : Addr} {fd : FuncData} {k : Nat}
theorem zag2 : Nd "NoRow" := by decide +kernel
theorem zad1 : Nd "ask_length" := by decide +kernel
theorem zag3 : Nd "ask_values" := by decide +kernel
theorem zauo : bootBuiltins "sum" = some (.builtin "sum") := by decide +kernel
theorem zaup : ("sum" : Str) ≠ "__name__" := by decide +kernel
theorem zauq : Nd "sum" := by decide +kernel
theorem gl18 : AG (defScope (top 18)) ["len", "is_listed", "NoRow"] := ⟨by decide +kernel⟩
theorem av18 : AF (defScope (top 18)) ["row", "length"] := ⟨by decide +kernel⟩
def spLengthX (CR : Addr) : Sp := fun vs H Q E => ∃ (kd : SK) (a : Addr) (n : Int) (xs : List V), vs = [.ref a, .int n] ∧ SqX kd H a xs ∧ (n = (xs.length : Int) → ∀ H', Ch [] H H' → Q .non H') ∧ (n ≠ (xs.length : Int) → ∀ H', Ch [] H H' → E (.ref CR) none H')
theorem scLength : FnScope ["row", "length"] ["row", "length"] (defScope (top 18)) := ⟨rfl, rfl, rfl, by decide +kernel, rfl, by decide +kernel, by decide +kernel⟩
theorem zak2 {CR : Addr} (F : Fun K "ask_length" "ask_length" (top 18) f fd) (Dis_listed : DefOk P w K mg base CX0 k "is_listed" ["thing"] spListed) (z_len : mg "len" = none) (m_NoRow : mg "NoRow" = some (.ref CR)) (X_NoRow : XC K CR) :
  FnOk P w K mg base (CXE P w) (k + 1) f fd ["row", "length"] (spLengthX CR) := by
 have nd := scLength.nd
 refine F.okE scLength (fun vs H Q E h => by obtain ⟨kd, a, n, xs, rfl, _⟩ := h; rfl) (fun cdv A outer s H vs Q E hr h => ?_)
 obtain ⟨kd, a, n, xs, rfl, hx, q1, q2⟩ := h
 refine ⟨_, (Pr.h (zaah (zaa5 (zab7 (zab8 (zabn (zaa6 (zaam Dis_listed hr (gl18.g 1 rfl) pass0 (zaaa (qv av18 0 rfl) zaab zaac) zacr))) (zab3 (zaat zadr (zaaf zaan (gl18.g 0 rfl) z_len PySem.boot_len (zaaa (qv av18 0 rfl) zaab zaac) zabc zabd) (qv av18 1 rfl) (nomark _))))) (zaah (zab9 (gl18.g 2 rfl) m_NoRow X_NoRow (zaaa zabm zaab zaaq) zag2)) zaav))), ?_⟩
 (try dsimp only [cxOf])
 refine ⟨_, rfl, kd, a, xs, rfl, hx, fun H1 c1 => ?_⟩
 have hx1 := hx.ch c1
 cases kd with
 | list =>
  have hx1 : H1 a = some (.lst xs) := hx1
  walk_at "rd"
  refine ite2 (fun hc => ?_) (fun hc => ?_)
  ·walk_at "rd"
   exact q2 (fun e => by simp [e] at hc) _ c1
  ·walk_at "rd"
   exact q1 (by simpa using Eq.symm (by simpa using hc)) _ c1
 | tuple =>
  have hx1 : H1 a = some (.tup xs) := hx1
  walk_at "rd"
  refine ite2 (fun hc => ?_) (fun hc => ?_)
  ·walk_at "rd"
   exact q2 (fun e => by simp [e] at hc) _ c1
  ·walk_at "rd"
   exact q1 (by simpa using Eq.symm (by simpa using hc)) _ c1
theorem gl19 : AG (defScope (top 19)) ["ask_length", "len", "zip", "is_below", "NoRow"] := ⟨by decide +kernel⟩
theorem av19 : AF (defScope (top 19)) ["row", "wides", "value", "wide"] := ⟨by decide +kernel⟩
def spValuesX (CR : Addr) : Sp := fun vs H Q E => ∃ (kd : SK) (a b : Addr) (xs : List V), vs = [.ref a, .ref b] ∧ SqX kd H a xs ∧ H b = some (.lst (List.replicate xs.length (.int 1))) ∧ (∀ x ∈ xs, Th H x) ∧ ((∀ x ∈ xs, okB x) → ∀ H', Ch [] H H' → Q .non H') ∧ ((∃ x ∈ xs, ¬ okB x) → ∀ H', Ch [] H H' → E (.ref CR) none H')
theorem scValues : FnScope ["row", "wides", "value", "wide"] ["row", "wides"] (defScope (top 19)) := ⟨rfl, rfl, rfl, by decide +kernel, rfl, by decide +kernel, by decide +kernel⟩
theorem zak3 {CR : Addr} (F : Fun K "ask_values" "ask_values" (top 19) f fd) (Dask_length : DefOk P w K mg base (CXE P w) k "ask_length" ["row", "length"] (spLengthX CR)) (Dis_below : DefOk P w K mg base CX0 k "is_below" ["thing", "bound"] spBelowG) (z_len : mg "len" = none) (z_zip : mg "zip" = none)
  (m_NoRow : mg "NoRow" = some (.ref CR)) (X_NoRow : XC K CR) : FnOk P w K mg base (CXE P w) (k + 1) f fd ["row", "wides"] (spValuesX CR) := by
 have nd := scValues.nd
 refine F.okE scValues (fun vs H Q E h => by obtain ⟨kd, a, b, xs, rfl, _⟩ := h; rfl) (fun cdv A outer s H vs Q E hr h => ?_)
 obtain ⟨kd, a, b, xs, rfl, hx, hb, ht, q1, q2⟩ := h
 refine ⟨_, (Pr.h (zaad (zabu (zaam Dask_length hr (gl19.g 0 rfl) passE (zaaa (qv av19 0 rfl) (zaaa (zaaf zaan (gl19.g 1 rfl) z_len PySem.boot_len (zaaa (qv av19 1 rfl) zaab zaac) zabc zabd) zaab zabf) zaac) zad1)) (zaah (zabp powE rfl (zait kd .list (gl19.g 2 rfl) z_zip (zaaa (qv av19 0 rfl) (zaaa (qv av19 1 rfl) zaab zaac) zaac)) (zarw rfl (zaa3 (zaap (i := 2) nd rfl (av19.l 2 rfl)) (zaa3 (zaap (i := 3) nd rfl (av19.l 3 rfl)) zacc))) (zaah (zaa5 (zabn (zaa6 (zaam Dis_below hr (gl19.g 3 rfl) pass0 (zaaa (qv av19 2 rfl) (zaaa (zaaz zajq zaae (qv av19 3 rfl)) zaab zacb) zaac) zaco))) (zaah (zab9 (gl19.g 4 rfl) m_NoRow X_NoRow (zaaa zabm zaab zaaq) zag2)) zaav)))))), ?_⟩
 (try dsimp only [cxOf])
 walk_at "rd"
 refine ⟨fun _ H1 c1 => ?_, fun e => (e (by simp)).elim⟩
 have hx1 : SqX kd H1 a xs := hx.ch c1
 have hb1 : H1 b = some (.lst (List.replicate xs.length (.int 1))) := c1.get hb (by simp)
 walk_at "rd"
 refine ⟨⟨_, hx1.sq⟩, ⟨_, SqL.of hb1⟩, ?_⟩
 refine zapn (xs := xs) (ys := List.replicate xs.length (.int 1)) (fun i σ H' => Ch [] H H' ∧ (∀ j x, j < i → xs[j]? = some x → okB x) ∧ ∃ u v, σ = [some (.ref a), some (.ref b), u, v]) ⟨c1, fun j x z => absurd z (Nat.not_lt_zero j), _, _, rfl⟩ ?_ ?_ ?_
 ·rintro i σ H' hi ⟨c, _⟩
  exact ⟨(hx.ch c).sq, SqL.of (c.get hb (by simp))⟩
 ·rintro i x y σ H' T e1 e2 ⟨c, al, u, v, rfl⟩ hT
  obtain rfl : y = .int 1 := by
   rw [List.getElem?_replicate] at e2
   split at e2
   ·exact (Option.some.inj e2).symm
   ·cases e2
  have tx := ht x (List.mem_of_getElem? e1)
  have tx2 : Th (upd H' T (.tup [x, .int 1])) x := tx.any
  walk_at "rd"
  have e2' : (1 * 2 ^ Int.toNat 1 : Int) = 2 := by decide
  rw [e2']
  cases hb2 : belB x 2 with
  | true =>
   refine iteF ?_
   refine ⟨c.trans (Ch.new hT _), fun j x' hj hx' => ?_, _, _, rfl⟩
   by_cases ej : j = i
   ·subst ej; rw [e1] at hx'; cases hx'; exact hb2
   ·exact al j x' (by omega) hx'
  | false =>
   refine iteT ?_
   walk_at "rd"
   exact q2 ⟨x, List.mem_of_getElem? e1, fun z => by rw [okB, hb2] at z; cases z⟩ _ (c.trans (Ch.new hT _))
 ·rintro σ H' ⟨c, al, _⟩
  refine q1 (fun x hx => ?_) _ c
  obtain ⟨j, hj⟩ := List.getElem?_of_mem hx
  exact al j x (by have := (List.getElem?_eq_some_iff.mp hj).1; simpa using this) hj
theorem gl20 : AG (defScope (top 20)) ["ask_length", "ask_values", "len"] := ⟨by decide +kernel⟩
theorem av20 : AF (defScope (top 20)) ["row", "length"] := ⟨by decide +kernel⟩
def Odd (xs : List V) (n : Nat) : Prop := n ≠ xs.length ∨ ∃ x ∈ xs, ¬ okB x
def spBitsX (CR : Addr) : Sp := fun vs H Q E => ∃ (kd : SK) (a : Addr) (n' : Int) (n : Nat) (xs : List V), vs = [.ref a, .int n'] ∧ n' = (n : Int) ∧ SqX kd H a xs ∧ (∀ x ∈ xs, Th H x) ∧ xs.length ≤ 1000 ∧ (n = xs.length → (∀ x ∈ xs, okB x) → ∀ H', Ch [] H H' → Q .non H') ∧ (Odd xs n → ∀ H', Ch [] H H' → E (.ref CR) none H')
theorem scABits : FnScope ["row", "length"] ["row", "length"] (defScope (top 20)) := ⟨rfl, rfl, rfl, by decide +kernel, rfl, by decide +kernel, by decide +kernel⟩
theorem zap9 {CR : Addr} (F : Fun K "ask_bits" "ask_bits" (top 20) f fd) (Dask_length : DefOk P w K mg base (CXE P w) k "ask_length" ["row", "length"] (spLengthX CR)) (Dask_values : DefOk P w K mg base (CXE P w) k "ask_values" ["row", "wides"] (spValuesX CR)) (z_len : mg "len" = none) :
  FnOk P w K mg base (CXE P w) (k + 1) f fd ["row", "length"] (spBitsX CR) := by
 have nd := scABits.nd
 refine F.okE scABits (fun vs H Q E h => by obtain ⟨kd, a, n', n, xs, rfl, _⟩ := h; rfl) (fun cdv A outer s H vs Q E hr h => ?_)
 obtain ⟨kd, a, n', n, xs, rfl, rfl, hx, ht, hlen, q1, q2⟩ := h
 refine ⟨_, (Pr.h (zaad (zabu (zaam Dask_length hr (gl20.g 0 rfl) passE (zaaa (qv av20 0 rfl) (zaaa (qv av20 1 rfl) zaab zaac) zaac) zad1)) (zaah (zabu (zaam Dask_values hr (gl20.g 1 rfl) passE (zaaa (qv av20 0 rfl) (zaaa (zaaz zat5 (zabz (zaaa zaae zaab zaaq)) (zaaf zaan (gl20.g 2 rfl) z_len PySem.boot_len (zaaa (qv av20 0 rfl) zaab zaac) zabc zabd)) zaab zacb) zaac) zag3))))), ?_⟩
 (try dsimp only [cxOf])
 walk_at "rd"
 refine ⟨fun el H1 c1 => ?_, fun z H1 c1 => q2 (.inl (by omega)) H1 c1⟩
 have hx1 := hx.ch c1
 have el : n = xs.length := by omega
 cases kd with
 | list =>
  have hx2 : H1 a = some (.lst xs) := hx1
  walk_at "rd"
  rename_i p1 hp1 p2 hp2
  refine ⟨(show SqX .list _ a xs from zabq hp2 (zabq hp1 hx2)), (by rw [zaag, zagu]; simp : _ = some (HO.lst (List.replicate xs.length (V.int 1)))), fun x hm => (ht x hm).any, fun al H' c => q1 el al _ (((c1.trans (Ch.new hp1 _)).trans (Ch.new hp2 _)).trans c), fun z H' c => q2 (.inr z) _ (((c1.trans (Ch.new hp1 _)).trans (Ch.new hp2 _)).trans c)⟩
 | tuple =>
  have hx2 : H1 a = some (.tup xs) := hx1
  walk_at "rd"
  rename_i p1 hp1 p2 hp2
  refine ⟨(show SqX .tuple _ a xs from zabq hp2 (zabq hp1 hx2)), (by rw [zaag, zagu]; simp : _ = some (HO.lst (List.replicate xs.length (V.int 1)))), fun x hm => (ht x hm).any, fun al H' c => q1 el al _ (((c1.trans (Ch.new hp1 _)).trans (Ch.new hp2 _)).trans c), fun z H' c => q2 (.inr z) _ (((c1.trans (Ch.new hp1 _)).trans (Ch.new hp2 _)).trans c)⟩
theorem av23 : AF (defScope (top 23)) ["bits", "fed", "number"] := ⟨by decide +kernel⟩
theorem gl23 : AG (defScope (top 23)) ["sum", "enumerate"] := ⟨by decide +kernel⟩
def zajd : Scope := { kind := PySem.ScopeKind.function, names := [ (PySem.Str.ofString ".0", PySem.NameKind.local), (PySem.Str.ofString "place", PySem.NameKind.local), (PySem.Str.ofString "bit", PySem.NameKind.local)], isGenerator := false, isCoroutine := false, more := [] : PySem.Scope }
theorem zaje : CompOk zajd (defScope (top 23)) (["place", "bit"] : List Str) (["bits", "fed", "number"] : List Str) [] (["place", "bit"] : List Str) := compOk rfl (by decide +kernel) (by decide +kernel) (by decide +kernel) (by decide +kernel) rfl (by decide +kernel)
theorem zag4 : AK (relab zajd (defScope (top 23))) ["place", "bit"] := ⟨by decide +kernel⟩
theorem zan1 : AV (relab zajd (defScope (top 23))) ["place", "bit"] := ⟨by decide +kernel⟩
def spTbit : Sp := fun vs H Q _ => ∃ (bits : Int) (r : Addr) (bs : List Bool), vs = [.int bits, .ref r] ∧ H r = some (.lst (bs.map bV)) ∧ bs.length ≤ 4 ∧ ∀ H', Ch [] H H' → Q (bV (tbit bits bs)) H'
theorem scTbit : FnScope ["bits", "fed", "number"] ["bits", "fed"] (defScope (top 23)) := ⟨rfl, rfl, rfl, by decide +kernel, rfl, by decide +kernel, by decide +kernel⟩
theorem zaso (F : Fun K "table_bit" "table_bit" (top 23) f fd) (z_sum : mg "sum" = none) (z_enumerate : mg "enumerate" = none) : FnOk P w K mg base CX0 (k + 1) f fd ["bits", "fed"] spTbit := by
 have nd := scTbit.nd
 refine F.ok scTbit (fun vs H Q E h => by obtain ⟨bits, r, bs, rfl, _⟩ := h; rfl) (fun cdv A outer s H vs Q E hr h => ?_)
 obtain ⟨bits, r, bs, rfl, hr0, l4, q⟩ := h
 refine ⟨_, (Pr.h (zaad (zaax (i := 2) nd rfl (av23.l 2 rfl) (zaaf (zapw rfl) (gl23.g 0 rfl) z_sum zauo (zaaa (zaa7 rfl zaje (zagn .list (gl23.g 1 rfl) z_enumerate (zaaa (qv av23 1 rfl) zaab zaac)) (fun _ _ _ _ _ => (zack K 2 rfl rfl (zaa3 (zaap (i := 0) zaje.nd rfl (Or.inl (zag4.k 0 rfl)) (Or.inr (zag4.k 0 rfl))) (zaa3 (zaap (i := 1) zaje.nd rfl (Or.inl (zag4.k 1 rfl)) (Or.inr (zag4.k 1 rfl))) zacc)))) (fun _ _ _ _ _ => zaa9) (fun _ _ _ _ _ => (zaaz zajq (qw zan1 1 rfl) (qw zan1 0 rfl)))) zaab zaa0) zaup zauq)) (zaah (zaas (zaaz zatt (zaaz zats (qv av23 0 rfl) (qv av23 2 rfl)) zaae))))), ?_⟩
 (try dsimp only [cxOf])
 walk_at "rd"
 refine zafe (bs.map bV) (fun i ys σ H' => Ch [] H H' ∧ ys = ((shl bs 0).take i).map V.int ∧ ∃ u v, σ = [u, v]) (by rw [sizeLine_eq, List.length_map]; omega) ⟨Ch.refl _ _, rfl, _, _, rfl⟩ ?_ ?_ ?_
 ·rintro i ys σ H' hi ⟨c, rfl, _⟩
  exact ⟨by simp; omega, SqL.of (c.get hr0 (by simp))⟩
 ·rintro i ys σ H' x T hx ⟨c, rfl, u, v, rfl⟩ hT
  rw [List.getElem?_map] at hx
  obtain ⟨b, hb, rfl⟩ := Option.map_eq_some_iff.mp hx
  have hi : i < bs.length := (List.getElem?_eq_some_iff.mp hb).1
  have sg := zanz bs 0 i b hb
  have na : (bi b).natAbs < 2 ^ 64 := by cases b <;> decide
  unfold bV
  walk_at "rd"
  refine ⟨?_, _, _, rfl⟩
  rw [List.take_add_one, sg]; (try dsimp only); rw [Int.toNat_natCast, Nat.zero_add]; simp
 ·rintro ys σ H' ⟨c, rfl, _⟩
  intro D hD
  have tk : (shl bs 0).take (bs.map bV).length = shl bs 0 := List.take_of_length_le (by rw [List.length_map, zany]; exact Nat.le_refl _)
  rw [tk]
  refine ⟨D, shl bs 0, rfl, zaag, ?_⟩
  rw [zan0, Int.pow_zero, Int.mul_one]
  walk_at "rd"
  refine Eq.mp (congrArg (fun z => Q z (upd H' D (.lst ((shl bs 0).map V.int)))) ?_) (q _ (c.trans (Ch.new hD _)))
  dsimp only
  rw [PyProof.Rows.bitAnd_m1, Int.toNat_natCast, zaqv]
  rfl
end
end

section
def srcV (row : List Bool) (v : Nat → Bool) (s : Src) : Bool := if s.1 then v s.2 else row.getD s.2 false
def bkV (row : List Bool) (v : Nat → Bool) (b : Bk) : Bool := tbit b.bits (b.ss.map (srcV row v))
def hadK (rl bd zl : Addr) : List (Key × V) := [(.inr "in", .ref rl), (.inr "block", .ref bd), (.inr "none", .ref zl)]
structure Hd (H : Hp) (d rl bd zl : Addr) (row : List Bool) (kvs : List (Key × V)) : Prop where
 d : H d = some (.dK (hadK rl bd zl))
 r : H rl = some (.lst (row.map bV))
 b : H bd = some (.dK kvs)
theorem Hd.ch {H H' : Hp} {d rl bd zl : Addr} {row : List Bool} {kvs : List (Key × V)} (h : Hd H d rl bd zl row kvs) (c : Ch [] H H') : Hd H' d rl bd zl row kvs := ⟨c.get h.d (by simp), c.get h.r (by simp), c.get h.b (by simp)⟩
def Knows (row : List Bool) (kvs : List (Key × V)) (v : Nat → Bool) (ss : List Src) : Prop := ∀ s ∈ ss, (s.1 = true → valV kvs (.inl (s.2 : Int)) = some (bV (v s.2))) ∧ (s.1 = false → s.2 < row.length)
section
variable {P : Program} {w : World} {K : PySem.W.Frag} {mg : Str → Option Value} {base : Heap} {f : Addr} {fd : FuncData} {k : Nat}
local macro_rules | `(tactic| walk_at "user") => `(tactic| first
 | (apply zabv; (focus walk_at "get"); (focus with_reducible assumption))
 | (apply zael; (focus walk_at "get"); (focus with_reducible assumption))
 | (apply dputI; (focus walk_at "get"); (focus with_reducible assumption)))
theorem zaif : Nd "table_bit" := by decide +kernel
def hadR (rl bd : Addr) (s : Src) : Addr := if s.1 then bd else rl
theorem zan2 {rl bd zl : Addr} (s : Src) : valV (hadK rl bd zl) (.inr (wd s.1)) = some (.ref (hadR rl bd s)) := by
 obtain ⟨sb, sn⟩ := s
 cases sb <;> rfl
theorem zaqw {K : PySem.W.Frag} {H : Hp} {d rl bd zl : Addr} {row : List Bool} {kvs : List (Key × V)} (h : Hd H d rl bd zl row kvs) {v : Nat → Bool} {s : Src} (kn : (s.1 = true → valV kvs (.inl (s.2 : Int)) = some (bV (v s.2))) ∧ (s.1 = false → s.2 < row.length)) {Q : VK} (q : Q (bV (srcV row v s)) H) :
  LDx K (.ref (hadR rl bd s)) (.int (s.2 : Int)) H Q := by
 obtain ⟨sb, sn⟩ := s
 cases sb with
 | true => exact ⟨bd, rfl, .inr ⟨_, zabv h.b (kn.1 rfl), q⟩⟩
 | false =>
  have hl := kn.2 rfl
  refine ⟨rl, rfl, .inl ⟨_, _, rfl, SqL.of h.r, ?_⟩⟩
  refine Atx.of (v := bV (row.getD sn false)) (zaec ?_) q
  rw [List.getElem?_map, List.getD_eq_getElem?_getD, List.getElem?_eq_getElem (show sn < row.length from hl)]
  rfl
theorem gl33 : AG (defScope (top 33)) ["table_bit"] := ⟨by decide +kernel⟩
theorem av33 : AF (defScope (top 33)) ["block", "had"] := ⟨by decide +kernel⟩
def zajf : Scope := { kind := PySem.ScopeKind.function, names := [ (PySem.Str.ofString ".0", PySem.NameKind.local), (PySem.Str.ofString "word", PySem.NameKind.local), (PySem.Str.ofString "number", PySem.NameKind.local), (PySem.Str.ofString "had", PySem.NameKind.free)], isGenerator := false, isCoroutine := false, more := [] : PySem.Scope }
theorem zajg : CompOk zajf (defScope (top 33)) (["word", "number"] : List Str) (["block", "had"] : List Str) [1] (["word", "number", "had"] : List Str) := compOk rfl (by decide +kernel) (by decide +kernel) (by decide +kernel) (by decide +kernel) rfl (by decide +kernel)
theorem zag5 : AK (relab zajf (defScope (top 33))) ["word", "number"] := ⟨by decide +kernel⟩
theorem zajh : AV (relab zajf (defScope (top 33))) ["word", "number", "had"] := ⟨by decide +kernel⟩
def spBB : Sp := fun vs H Q _ => ∃ (p d rl bd zl : Addr) (row : List Bool) (kvs : List (Key × V)) (v : Nat → Bool) (b : Bk), vs = [.ref p, .ref d] ∧ BkAt .tuple H b p ∧ b.ss.length ≤ 4 ∧ Hd H d rl bd zl row kvs ∧ Knows row kvs v b.ss ∧ ∀ H', Ch [] H H' → Q (bV (bkV row v b)) H'
theorem scBB : FnScope ["block", "had"] ["block", "had"] (defScope (top 33)) := ⟨rfl, rfl, rfl, by decide +kernel, rfl, by decide +kernel, by decide +kernel⟩
theorem zavj (F : Fun K "block_bit" "block_bit" (top 33) f fd) (Dtable_bit : DefOk P w K mg base CX0 k "table_bit" ["bits", "fed"] spTbit) : FnOk P w K mg base CX0 (k + 1) f fd ["block", "had"] spBB := by
 have nd := scBB.nd
 refine F.ok scBB (fun vs H Q E h => by obtain ⟨p, d, rl, bd, zl, row, kvs, v, b, rfl, _⟩ := h; rfl) (fun cdv A outer s H vs Q E hr h => ?_)
 obtain ⟨p, d, rl, bd, zl, row, kvs, v, b, rfl, ⟨lp, sps, hp, hs, ws⟩, s4, hd, kn, q⟩ := h
 have hu := zagk hr
 have hs : H lp = some (.tup (sps.map V.ref)) := hs
 have ls := Paired.length ws
 rw [List.length_map] at ls
 refine ⟨_, (Pr.h (zaah (zaas (zaam Dtable_bit hr (gl33.g 0 rfl) pass0 (zaaa (zaar zaa2 (qv av33 0 rfl) zaae (fun _ _ => rfl)) (zaaa (zaa7 rfl zajg (zal3 (zaar zaa2 (qv av33 0 rfl) zaae (fun _ _ => rfl))) (fun _ _ _ _ _ => (zack K 2 rfl rfl (zaa3 (zaap (i := 0) zajg.nd rfl (Or.inl (zag5.k 0 rfl)) (Or.inr (zag5.k 0 rfl))) (zaa3 (zaap (i := 1) zajg.nd rfl (Or.inl (zag5.k 1 rfl)) (Or.inr (zag5.k 1 rfl))) zacc)))) (fun _ _ _ _ _ => zaa9) (fun _ _ _ _ _ => (zaar (zamt hu K rfl) (zabi hu (qw zajh 2 rfl) (qw zajh 0 rfl) (fun _ _ => rfl)) (qw zajh 1 rfl) (fun _ _ => rfl)))) zaab zaa0) zaau) zaif)))), ?_⟩
 (try dsimp only [cxOf])
 walk_at "rd"
 refine zagm (sps.map V.ref) (fun i ys σ H' => H' = H ∧ ys = ((b.ss.take i).map (srcV row v)).map bV ∧ ∃ u v, σ = [u, v, some (.ref d)]) (by rw [sizeLine_eq, List.length_map]; omega) ⟨rfl, rfl, _, _, rfl⟩ ?_ ?_ ?_
 ·rintro i ys σ H' hi ⟨rfl, rfl, _⟩
  refine ⟨?_, SqT.of hs⟩
  rw [List.length_map, List.length_map, List.length_take]; omega
 ·rintro i ys σ H' z hz ⟨rfl, rfl, u, v', rfl⟩
  obtain ⟨pl, x, rfl, g1, ⟨g2, _⟩⟩ := zaba ws i z hz
  rw [List.getElem?_map] at g1
  obtain ⟨sr, es, rfl⟩ := Option.map_eq_some_iff.mp g1
  have et : b.ss.take (i + 1) = b.ss.take i ++ [sr] := by rw [List.take_add_one, es]; rfl
  rw [et, List.map_append, List.map_append]
  have g2 : H' pl = some (.tup [.str (wd sr.1), .int (sr.2 : Int)]) := g2
  have hd1 := hd.d
  have vw := zan2 (rl := rl) (bd := bd) (zl := zl) sr
  walk_at "rd"
  refine zaqw hd (kn sr (List.mem_of_getElem? es)) ?_
  exact ⟨rfl, by simp, _, _, rfl⟩
 ·rintro ys σ H' ⟨rfl, rfl, _⟩
  intro D hD
  rw [List.length_map, ← ls, List.take_length]
  walk_at "rd"
  exact q _ ((Ch.new hD _).trans (by assumption))
end
end

section
def kpB (bs : List Bk) (n : Nat) : Bool := match bs[n]? with
 | some b => decide (b.kept = 1)
 | none => false
def fsB (bs : List Bk) (n : Nat) : Bool := match bs[n]? with
 | some b => decide (b.first = 1)
 | none => false
def keptOf (bs : List Bk) : List Nat := (List.range bs.length).filter (kpB bs)
theorem zagg {bs : List Bk} {n : Nat} {b : Bk} (h : bs[n]? = some b) : kpB bs n = decide (b.kept = 1) := by unfold kpB; rw [h]
theorem zaqx {bs : List Bk} {n : Nat} {b : Bk} (h : bs[n]? = some b) : fsB bs n = decide (b.first = 1) := by unfold fsB; rw [h]
theorem zadk (bs : List Bk) : (keptOf bs).Nodup := List.nodup_range.filter _
theorem zag6 {bs : List Bk} {n : Nat} (h : n ∈ keptOf bs) : n < bs.length := by simpa using (List.mem_filter.mp h).1
theorem zad2 (bs : List Bk) : (keptOf bs).length ≤ bs.length := by
 have := List.length_filter_le (kpB bs) (List.range bs.length)
 rwa [List.length_range] at this
abbrev keptD (bs : List Bk) (kv : Nat → Bool) : List (Key × V) := wD (keptOf bs) fun n => bV (kv n)
def fldsB (ins : Nat) (bt ot ol kd : Addr) : List (Str × V) := [("ins", .int (ins : Int)), ("blocks", .ref bt), ("outs", .ref ot), ("order", .ref ol), ("kept", .ref kd)]
section
variable {ins : Nat} {bt ot ol kd : Addr}
theorem fp_i : List.lookup (Str.ofString "ins") (fldsP ins bt ot) = some (.int (ins : Int)) := rfl
theorem fp_b : List.lookup (Str.ofString "blocks") (fldsP ins bt ot) = some (.ref bt) := rfl
theorem fp_o : List.lookup (Str.ofString "outs") (fldsP ins bt ot) = some (.ref ot) := rfl
theorem fb_i : List.lookup (Str.ofString "ins") (fldsB ins bt ot ol kd) = some (.int (ins : Int)) := rfl
theorem fb_b : List.lookup (Str.ofString "blocks") (fldsB ins bt ot ol kd) = some (.ref bt) := rfl
theorem fb_o : List.lookup (Str.ofString "outs") (fldsB ins bt ot ol kd) = some (.ref ot) := rfl
theorem fb_r : List.lookup (Str.ofString "order") (fldsB ins bt ot ol kd) = some (.ref ol) := rfl
theorem fb_k : List.lookup (Str.ofString "kept") (fldsB ins bt ot ol kd) = some (.ref kd) := rfl
theorem zaur {kd' : Addr} : putF "kept" (.ref kd') (fldsB ins bt ot ol kd) = fldsB ins bt ot ol kd' := rfl
end
structure PlP (C : Addr) (H : Hp) (y dx : Addr) (ins : Nat) (bt ot ol kd : Addr) (bs : List Bk) (os : List Src) (order : List Nat) (kv : Nat → Bool) : Prop where
 ob : H y = some (.ins C dx (fldsB ins bt ot ol kd))
 pk : PkT H bt ot (bs.map Bk.g) (os.map sg)
 od : H ol = some (.lst (order.map nV))
 kd : H kd = some (.dK (keptD bs kv))
theorem zaus {H : Hp} {bt ot : Addr} {bs : List Bk} {ogs : List (List V)} (s : PkT H bt ot (bs.map Bk.g) ogs) : ∃ ps, H bt = some (.tup (ps.map V.ref)) ∧ BsAt .tuple H bs ps := by
 obtain ⟨ps, h, p⟩ := s.b
 refine ⟨ps, h, ?_⟩
 clear h s
 revert ps
 induction bs with
 | nil => intro ps p; cases p; exact .nil
 | cons b r ih => intro ps p; cases p with | cons a t => exact .cons a (ih _ t)
section
variable {P : Program} {w : World} {K : PySem.W.Frag} {mg : Str → Option Value} {base : Heap} {f : Addr} {fd : FuncData} {k : Nat}
theorem av34m0 : AF (defScope (inClass (top 34) 0)) ["self", "ins", "blocks", "outs"] := ⟨by decide +kernel⟩
theorem gl34m0 : AG (defScope (inClass (top 34) 0)) ["loose_order", "dict", "enumerate"] := ⟨by decide +kernel⟩
def zafq : Scope := { kind := PySem.ScopeKind.function, names := [ (PySem.Str.ofString ".0", PySem.NameKind.local), (PySem.Str.ofString "number", PySem.NameKind.local), (PySem.Str.ofString "block", PySem.NameKind.local)], isGenerator := false, isCoroutine := false, more := [] : PySem.Scope }
theorem zafr : CompOk zafq (defScope (inClass (top 34) 0)) (["number", "block"] : List Str) (["self", "ins", "blocks", "outs"] : List Str) [] (["number", "block"] : List Str) := compOk rfl (by decide +kernel) (by decide +kernel) (by decide +kernel) (by decide +kernel) rfl (by decide +kernel)
theorem zad3 : AK (relab zafq (defScope (inClass (top 34) 0))) ["number", "block"] := ⟨by decide +kernel⟩
theorem zafs : AV (relab zafq (defScope (inClass (top 34) 0))) ["number", "block"] := ⟨by decide +kernel⟩
def spBP (C : Addr) : Sp := fun vs H Q _ => ∃ (y dx bt ot : Addr) (ins : Nat) (bs : List Bk) (os : List Src), vs = [.ref y, .int (ins : Int), .ref bt, .ref ot] ∧ H y = some (.ins C dx []) ∧ PkT H bt ot (bs.map Bk.g) (os.map sg) ∧ (∀ b ∈ bs, b.ok ins bs.length) ∧ bs.length ≤ 40 ∧
 ∀ ol kd order H', Ch [y] H H' → H ol = none → H kd = none → Kahn (looseOf bs) (lsOf bs) order [] → PlP C H' y dx ins bt ot ol kd bs os order (fsB bs) → Q .non H'
theorem scBP : FnScope ["self", "ins", "blocks", "outs"] ["self", "ins", "blocks", "outs"] (defScope (inClass (top 34) 0)) := ⟨rfl, rfl, rfl, by decide +kernel, rfl, by decide +kernel, by decide +kernel⟩
theorem zavk {C : Addr} (F : Fun K "__init__" "BlockPlayer.__init__" (inClass (top 34) 0) f fd) (cl : Cls K C) (nI : NoAttr K C "ins") (nB : NoAttr K C "blocks") (nO : NoAttr K C "outs") (nR : NoAttr K C "order") (nH : NoAttr K C "kept") (Dloose_order : DefOk P w K mg base CX0 k "loose_order" ["blocks"] spLO) (z_enumerate : mg "enumerate" = none) (z_dict : mg "dict" = none) :
  FnOk P w K mg base CX0 (k + 1) f fd ["self", "ins", "blocks", "outs"] (spBP C) := by
 have nd := scBP.nd
 refine F.ok scBP (fun vs H Q E h => by obtain ⟨y, dx, bt, ot, ins, bs, os, rfl, _⟩ := h; rfl) (fun cdv A outer s H vs Q E hr h => ?_)
 obtain ⟨y, dx, bt, ot, ins, bs, os, rfl, hy, pk, ok, l40, q⟩ := h
 obtain ⟨ps, hb0, bt0⟩ := zaus pk
 have lp := Paired.length bt0
 refine ⟨_, (Pr.h (zaad (zac7 (qv av34m0 0 rfl) (qv av34m0 1 rfl) rfl) (zaad (zac7 (qv av34m0 0 rfl) (qv av34m0 2 rfl) rfl) (zaad (zac7 (qv av34m0 0 rfl) (qv av34m0 3 rfl) rfl) (zaad (zac7 (qv av34m0 0 rfl) (zaam Dloose_order hr (gl34m0.g 0 rfl) pass0 (zaaa (qv av34m0 2 rfl) zaab zaac) zadn) rfl) (zaah (zac7 (qv av34m0 0 rfl) (zabe (zac1 rfl) (gl34m0.g 1 rfl) z_dict zacx (zaaa (zaa7 rfl zafr (zagn .tuple (gl34m0.g 2 rfl) z_enumerate (zaaa (qv av34m0 2 rfl) zaab zaac)) (fun _ _ _ _ _ => (zack K 2 rfl rfl (zaa3 (zaap (i := 0) zafr.nd rfl (Or.inl (zad3.k 0 rfl)) (Or.inr (zad3.k 0 rfl))) (zaa3 (zaap (i := 1) zafr.nd rfl (Or.inl (zad3.k 1 rfl)) (Or.inr (zad3.k 1 rfl))) zacc)))) (fun _ _ _ _ _ => (zacq (zaat zacs (zaar (zacj K rfl) (qw zafs 1 rfl) zaae (fun _ _ => rfl)) zaae (nomark _)))) (fun _ _ _ _ _ => (zach (zaaa (qw zafs 0 rfl) (zaaa (zaar (zacj K rfl) (qw zafs 1 rfl) zaae (fun _ _ => rfl)) zaab zaau) zaac)))) zaab zaa0) zacy zacz) rfl))))))), ?_⟩
 (try dsimp only [cxOf])
 walk_at "rd"
 have c3 : Ch [y] H (upd (upd (upd H y (.ins C dx (putF "ins" (.int (ins : Int)) []))) y (.ins C dx (putF "blocks" (.ref bt) (putF "ins" (.int (ins : Int)) [])))) y (.ins C dx (putF "outs" (.ref ot) (putF "blocks" (.ref bt) (putF "ins" (.int (ins : Int)) []))))) := (Ch.put.trans Ch.put).trans Ch.put
 have g3 : (upd (upd (upd H y (.ins C dx (putF "ins" (.int (ins : Int)) []))) y (.ins C dx (putF "blocks" (.ref bt) (putF "ins" (.int (ins : Int)) [])))) y (.ins C dx (putF "outs" (.ref ot) (putF "blocks" (.ref bt) (putF "ins" (.int (ins : Int)) []))))) y = some (.ins C dx (putF "outs" (.ref ot) (putF "blocks" (.ref bt) (putF "ins" (.int (ins : Int)) [])))) := zaag
 generalize upd (upd (upd H y (.ins C dx (putF "ins" (.int (ins : Int)) []))) y (.ins C dx (putF "blocks" (.ref bt) (putF "ins" (.int (ins : Int)) [])))) y (.ins C dx (putF "outs" (.ref ot) (putF "blocks" (.ref bt) (putF "ins" (.int (ins : Int)) [])))) = H3 at c3 g3 ⊢
 have tu3 := Tu.ch c3 hy (fun _ z => by cases z)
 have hb3 := tu3 _ _ hb0
 have bt3 : BsAt .tuple H3 bs ps := zaal (fun _ _ e => BgAt.tu tu3 e) bt0
 refine ⟨(show SqX .tuple H3 bt (ps.map V.ref) from hb3), bt3, ok, by omega, fun p order H4 c4 hp0 hp4 kh => ?_⟩
 have g4 : H4 y = some (.ins C dx (putF "outs" (.ref ot) (putF "blocks" (.ref bt) (putF "ins" (.int (ins : Int)) [])))) := c4.get g3 (by simp)
 walk_at "rd"
 have ny : p ≠ y := zabl hp4 g4 (by intro z; cases z)
 have c5 : Ch [y] H (upd H4 y (.ins C dx (putF "order" (.ref p) (putF "outs" (.ref ot) (putF "blocks" (.ref bt) (putF "ins" (.int (ins : Int)) [])))))) := (c3.trans c4.wk).trans Ch.put
 have g5 : (upd H4 y (.ins C dx (putF "order" (.ref p) (putF "outs" (.ref ot) (putF "blocks" (.ref bt) (putF "ins" (.int (ins : Int)) [])))))) y = some (.ins C dx (putF "order" (.ref p) (putF "outs" (.ref ot) (putF "blocks" (.ref bt) (putF "ins" (.int (ins : Int)) []))))) := zaag
 have p5 : (upd H4 y (.ins C dx (putF "order" (.ref p) (putF "outs" (.ref ot) (putF "blocks" (.ref bt) (putF "ins" (.int (ins : Int)) [])))))) p = some (.lst (order.map nV)) := zabg ny hp4
 have h0 : H p = none := by
  cases e : H p with
  | none => rfl
  | some o => rw [c3.get e (by simpa using ny)] at hp0; cases hp0
 generalize upd H4 y (.ins C dx (putF "order" (.ref p) (putF "outs" (.ref ot) (putF "blocks" (.ref bt) (putF "ins" (.int (ins : Int)) []))))) = H5 at c5 g5 p5 ⊢
 clear c4 g4 hp4 hp0 c3 g3 bt3 hb3 tu3
 have tu5 := Tu.ch c5 hy (fun _ z => by cases z)
 have hb5 := tu5 _ _ hb0
 have bt5 : BsAt .tuple H5 bs ps := zaal (fun _ _ e => BgAt.tu tu5 e) bt0
 have kl := zad2 bs
 refine zafe (ps.map V.ref) (fun i ys σ H' => WC H5 H' ((List.range i).filter (kpB bs)) (fun n => bV (fsB bs n)) ys ∧ ∃ u v, σ = [u, v]) (by rw [sizeLine_eq, List.length_map]; omega) ⟨⟨Ch.refl _ _, [], rfl, .nil⟩, _, _, rfl⟩ ?_ ?_ ?_
 ·rintro i ys σ H' hi ⟨⟨c, ts, rfl, tt⟩, _⟩
  refine ⟨?_, SqT.of (c.get hb5 (by simp))⟩
  rw [List.length_map, Paired.length tt]
  unfold wD
  rw [List.length_map]
  exact Nat.le_trans (List.length_filter_le _ _) (by rw [List.length_range]; exact Nat.le_refl _)
 ·rintro i ys σ H' z T hz ⟨⟨c, ts, rfl, tt⟩, u, v, rfl⟩ hT
  have hi : i < bs.length := by have := (List.getElem?_eq_some_iff.mp hz).1; rw [List.length_map] at this; omega
  obtain ⟨pb, b, e1, e2, ⟨lpp, _, hp, _⟩⟩ := zaie bt5 i hi
  rw [e1] at hz
  cases hz
  have hp1 : H' pb = some (.tup [.ref lpp, .int b.bits, .int b.kept, .int b.first]) := c.get hp (by simp)
  have lo := zagg e2
  have fs := zaqx e2
  have okb := ok b (List.mem_of_getElem? e2)
  rw [List.range_succ, List.filter_append]
  walk_at "rd"
  refine ite2 (fun hc => ?_) (fun hc => ?_)
  ·have hk : b.kept = 1 := by simpa using hc
   rw [hk] at lo
   walk_at "rd"
   rename_i T2 hT2
   refine ⟨⟨(c.trans (Ch.new hT _)).trans (Ch.new hT2 _), ts ++ [T2], by simp, ?_⟩, _, _, rfl⟩
   have ef : V.int b.first = bV (fsB bs i) := by
    have f0 := okb.f0
    have f1 := okb.f1
    have : b.first = 0 ∨ b.first = 1 := by omega
    rcases this with h | h <;> rw [fs, h] <;> rfl
   have eq : wD ((List.range i).filter (kpB bs) ++ [i].filter (kpB bs)) (fun n => bV (fsB bs n)) = wD ((List.range i).filter (kpB bs)) (fun n => bV (fsB bs n)) ++ [(.inl (i : Int), bV (fsB bs i))] := by
    unfold wD; rw [List.map_append]; simp [lo]
   rw [eq]
   refine zaen ?_ (zafo ((Ch.new hT _).trans (Ch.new hT2 _)) tt)
   rw [zaag, ef]
   rfl
  ·have hk : b.kept ≠ 1 := by simpa using hc
   refine ⟨⟨c.trans (Ch.new hT _), ts, rfl, ?_⟩, _, _, rfl⟩
   have eq : ([i].filter (kpB bs)) = [] := by simp [lo, hk]
   rw [eq, List.append_nil]
   exact zafo (Ch.new hT _) tt
 rintro ys σ H6 ⟨⟨c6, ts, rfl, tt⟩, _⟩
 rw [List.length_map, ← lp] at tt
 intro D hD
 have cD : Ch [] H6 (upd H6 D (.lst (ts.map V.ref))) := Ch.new hD _
 refine ⟨D, ts, keptD bs (fsB bs), rfl, zaag, Paired.length tt, zak0 (zafo cD tt), zafn (zadk bs), ?_, fun kd hkd => ?_⟩
 ·show (wD (keptOf bs) _).length ≤ _
  unfold wD; rw [List.length_map, sizeLine_eq]; omega
 have cK : Ch [] H5 (upd (upd H6 D (.lst (ts.map V.ref))) kd (.dK (keptD bs (fsB bs)))) := (c6.trans cD).trans (Ch.new hkd _)
 have k0 : H5 kd = none := chFree (c6.trans cD) hkd
 have gk : (upd (upd H6 D (.lst (ts.map V.ref))) kd (.dK (keptD bs (fsB bs)))) kd = some (.dK (keptD bs (fsB bs))) := zaag
 generalize upd (upd H6 D (.lst (ts.map V.ref))) kd (.dK (keptD bs (fsB bs))) = H7 at cK gk ⊢
 have g7 := cK.get g5 (by simp)
 walk_at "rd"
 have nk : kd ≠ y := zabl gk g7 (by intro z; cases z)
 have k00 : H kd = none := by
  cases e : H kd with
  | none => rfl
  | some o => rw [c5.get e (by simpa using nk)] at k0; cases k0
 have cF : Ch [y] H (upd H7 y (.ins C dx (fldsB ins bt ot p kd))) := (c5.trans cK.wk).trans Ch.put
 exact q p kd order _ cF h0 k00 kh ⟨zaag, pk.tu (Tu.ch cF hy (fun _ z => by cases z)), zabg ny (cK.get p5 (by simp)), zabg nk gk⟩
end
end

section
section
variable {P : Program} {w : World} {K : PySem.W.Frag} {mg : Str → Option Value} {base : Heap} {f : Addr} {fd : FuncData} {k : Nat}
theorem gl35m0 : AG (defScope (inClass (top 35) 0)) ["BlockPlayer"] := ⟨by decide +kernel⟩
theorem av35m0 : AF (defScope (inClass (top 35) 0)) ["self", "pack"] := ⟨by decide +kernel⟩
def spPP (CP C : Addr) : Sp := fun vs H Q _ => ∃ (y dx x dn bt ot : Addr) (ins : Nat) (bs : List Bk) (os : List Src), vs = [.ref y, .ref x] ∧ H y = some (.ins C dx []) ∧ H x = some (.ins CP dn (fldsP ins bt ot)) ∧ PkT H bt ot (bs.map Bk.g) (os.map sg) ∧ (∀ b ∈ bs, b.ok ins bs.length) ∧ bs.length ≤ 40 ∧
 ∀ ol kd order H', Ch [y] H H' → H ol = none → H kd = none → Kahn (looseOf bs) (lsOf bs) order [] → PlP C H' y dx ins bt ot ol kd bs os order (fsB bs) → Q .non H'
theorem scPP : FnScope ["self", "pack"] ["self", "pack"] (defScope (inClass (top 35) 0)) := ⟨rfl, rfl, rfl, by decide +kernel, rfl, by decide +kernel, by decide +kernel⟩
theorem zavl {CP C : Addr} (F : Fun K "__init__" "PackPlayer.__init__" (inClass (top 35) 0) f fd) (clP : Cls K CP) (nI : NoAttr K CP "ins") (nB : NoAttr K CP "blocks") (nO : NoAttr K CP "outs") (KBlockPlayer___init__ : ClsOk P w K mg base CX0 k "BlockPlayer" "__init__" ["self", "ins", "blocks", "outs"] (spBP C)) :
  FnOk P w K mg base CX0 (k + 1) f fd ["self", "pack"] (spPP CP C) := by
 have nd := scPP.nd
 refine F.ok scPP (fun vs H Q E h => by obtain ⟨y, dx, x, dn, bt, ot, ins, bs, os, rfl, _⟩ := h; rfl) (fun cdv A outer s H vs Q E hr h => ?_)
 obtain ⟨y, dx, x, dn, bt, ot, ins, bs, os, rfl, hy, hx, pk, ok, l40, q⟩ := h
 refine ⟨_, (Pr.h (zaah (zabu (zap1 KBlockPlayer___init__ hr (gl35m0.g 0 rfl) pass0 (zaaa (qv av35m0 0 rfl) (zaaa (zact (qv av35m0 1 rfl) rfl) (zaaa (zact (qv av35m0 1 rfl) rfl) (zaaa (zact (qv av35m0 1 rfl) rfl) zaab zacd) zacd) zacd) zaac))))), ?_⟩
 (try dsimp only [cxOf])
 have f1 := @fp_i ins bt ot
 have f2 := @fp_b ins bt ot
 have f3 := @fp_o ins bt ot
 walk_at "rd"
 rename_i ol kd order H' c h1 h2 kh pp
 exact q ol kd order H' c h1 h2 kh pp
theorem av34m2 : AF (defScope (inClass (top 34) 2)) ["self"] := ⟨by decide +kernel⟩
theorem gl34m2 : AG (defScope (inClass (top 34) 2)) ["list"] := ⟨by decide +kernel⟩
def spHd (C : Addr) : Sp := fun vs H Q _ => ∃ (y dx : Addr) (ins : Nat) (bt ot ol kd : Addr) (bs : List Bk) (os : List Src) (order : List Nat) (kv : Nat → Bool), vs = [.ref y] ∧ PlP C H y dx ins bt ot ol kd bs os order kv ∧ ∀ r H', Ch [] H H' → H r = none → H' r = some (.lst (((keptOf bs).map kv).map bV)) → Q (.ref r) H'
theorem scHd : FnScope ["self"] ["self"] (defScope (inClass (top 34) 2)) := ⟨rfl, rfl, rfl, by decide +kernel, rfl, by decide +kernel, by decide +kernel⟩
theorem zavm {C : Addr} (F : Fun K "held" "BlockPlayer.held" (inClass (top 34) 2) f fd) (cl : Cls K C) (nT : NoAttr K C "kept") (z_list : mg "list" = none) : FnOk P w K mg base CX0 (k + 1) f fd ["self"] (spHd C) := by
 have nd := scHd.nd
 refine F.ok scHd (fun vs H Q E h => by obtain ⟨y, dx, ins, bt, ot, ol, kd, bs, os, order, kv, rfl, _⟩ := h; rfl) (fun cdv A outer s H vs Q E hr h => ?_)
 obtain ⟨y, dx, ins, bt, ot, ol, kd, bs, os, order, kv, rfl, ⟨hy, pk, ho, hk⟩, q⟩ := h
 refine ⟨_, (Pr.h (zaah (zaas (zabe (zaky rfl) (gl34m2.g 0 rfl) z_list zacu (zaaa (zakx (zact (qv av34m2 0 rfl) rfl)) zaab zabf) zacv zacw)))), ?_⟩
 (try dsimp only [cxOf])
 have f5 := @fb_k ins bt ot ol kd
 walk_at "rd"
 refine ⟨.inr (.inr (.inl ⟨rfl, .inl ⟨_, hk⟩⟩)), kd, _, rfl, rfl, hk, fun v hv => ?_⟩
 refine ⟨v, kd, _, rfl, zaag, zabq hv hk, fun l hl => ?_⟩
 refine q l _ ((Ch.new hv _).trans (Ch.new hl _)) (chFree (Ch.new hv _) hl) ?_
 rw [zaag]
 unfold keptD wD
 rw [List.map_map, List.map_map]
 rfl
end
end

section
structure Sol (bs : List Bk) (row : List Bool) (kv v : Nat → Bool) : Prop where
 k : ∀ n ∈ keptOf bs, v n = kv n
 l : ∀ n b, bs[n]? = some b → b.kept = 0 → v n = bkV row v b
def nxV (bs : List Bk) (row : List Bool) (v : Nat → Bool) (n : Nat) : Bool := match bs[n]? with
 | some b => bkV row v b
 | none => false
theorem zaqy {bs : List Bk} {row : List Bool} {v : Nat → Bool} {n : Nat} {b : Bk} (h : bs[n]? = some b) : nxV bs row v n = bkV row v b := by unfold nxV; rw [h]
theorem zasp {l : List Nat} {g : Nat → V} {n : Nat} (h : n ∉ l) : valV (wD l g) (.inl (n : Int)) = none := by
 induction l with
 | nil => rfl
 | cons a r ih =>
  have h1 : n ≠ a := fun e => h (by simp [e])
  have h2 : n ∉ r := fun e => h (by simp [e])
  have ih := ih h2
  unfold wD at *
  rw [List.map_cons, zabo (by simp; omega)]
  exact ih
theorem zaji {l : List Nat} {g : Nat → V} {n : Nat} (h : n ∉ l) : putK (wD l g) (.inl (n : Int)) (g n) = wD (l ++ [n]) g := by
 have e : ((wD l g).any fun kv => decide (kv.1 = .inl (n : Int))) = false := by
  rw [List.any_eq_false]
  intro kv hkv
  obtain ⟨a, ha, rfl⟩ := List.mem_map.mp hkv
  have : a ≠ n := fun z => h (z ▸ ha)
  simp; omega
 unfold putK
 rw [if_neg (by rw [e]; exact Bool.false_ne_true)]
 unfold wD
 rw [List.map_append]
 rfl
theorem Ch.thaw {H H' : Hp} {d : Addr} {ob : Obj} {o : HO} (c : Ch [] (upd H d (.frz ob o)) H') (h : H d = some o) : Ch [] H (upd H' d o) := fun b u e _ => by
 by_cases hb : b = d
 ·subst hb; rw [zaag, ← h, e]
 ·rw [zaaw hb]; exact c b u (by rw [zaaw hb]; exact e) (by simp)
theorem zaqz {row : List Bool} {ins len : Nat} {s : Src} {L : List Nat} {v : Nat → Bool} (hr : row.length = ins) (so : s.2 < lim ins len s.1) (hL : s.1 = true → s.2 ∈ L) : (s.1 = true → valV (wD L fun n => bV (v n)) (.inl (s.2 : Int)) = some (bV (v s.2))) ∧ (s.1 = false → s.2 < row.length) := by
 refine ⟨fun h => zado (hL h), fun h => ?_⟩
 rw [h] at so
 rw [hr]
 exact so
theorem zaig {ins : Nat} {bs : List Bk} (ok : ∀ b ∈ bs, b.ok ins bs.length) {m : Nat} (h : m < bs.length) : (loB bs m = true ∧ m ∈ looseOf bs) ∨ m ∈ keptOf bs := by
 have e := List.getElem?_eq_getElem h
 have okb := ok _ (List.mem_of_getElem? e)
 rcases okb.k with z | z
 ·have l : loB bs m = true := by rw [zadm e, z]; rfl
  exact .inl ⟨l, List.mem_filter.mpr ⟨List.mem_range.mpr h, l⟩⟩
 ·exact .inr (List.mem_filter.mpr ⟨List.mem_range.mpr h, by rw [zagg e, z]; rfl⟩)
theorem zaut {ins n : Nat} {bs : List Bk} {b : Bk} {row : List Bool} {L : List Nat} {v : Nat → Bool} (ok : ∀ b ∈ bs, b.ok ins bs.length) (e : bs[n]? = some b) (hr : row.length = ins) (hk : ∀ m ∈ keptOf bs, m ∈ L) (hl : ∀ m ∈ lsOf bs n, m ∈ L) : Knows row (wD L fun n => bV (v n)) v b.ss := fun s hs => by
 have so := (ok b (List.mem_of_getElem? e)).so s hs
 refine zaqz hr so fun h => ?_
 rw [h] at so
 rcases zaig ok (show s.2 < bs.length from so) with ⟨z, _⟩ | z
 ·refine hl _ ?_
  rw [zaem e]
  exact List.mem_map.mpr ⟨s, List.mem_filter.mpr ⟨hs, by simp [h, z]⟩, rfl⟩
 ·exact hk _ z
section
variable {P : Program} {w : World} {K : PySem.W.Frag} {mg : Str → Option Value} {base : Heap} {f : Addr} {fd : FuncData} {k : Nat}
local macro_rules | `(tactic| walk_at "user") => `(tactic| first
 | (apply zabv; (focus walk_at "get"); (focus with_reducible assumption))
 | (apply zael; (focus walk_at "get"); (focus with_reducible assumption))
 | (apply dputI; (focus walk_at "get"); (focus with_reducible assumption)))
theorem zajj : Nd "ask_bits" := by decide +kernel
theorem zak4 : Nd "SILENCE" := by decide +kernel
theorem zaew : Nd "block_bit" := by decide +kernel
theorem gl34m1 : AG (defScope (inClass (top 34) 1)) ["ask_bits", "SILENCE", "dict", "list", "block_bit"] := ⟨by decide +kernel⟩
theorem av34m1 : AF (defScope (inClass (top 34) 1)) ["self", "row", "had", "number"] := ⟨by decide +kernel⟩
def zad4 : Scope := { kind := PySem.ScopeKind.function, names := [ (PySem.Str.ofString ".0", PySem.NameKind.local), (PySem.Str.ofString "number", PySem.NameKind.local), (PySem.Str.ofString "block_bit", PySem.NameKind.globalImplicit), (PySem.Str.ofString "had", PySem.NameKind.free), (PySem.Str.ofString "self", PySem.NameKind.free)], isGenerator := false, isCoroutine := false, more := [] : PySem.Scope }
theorem zaih : CompOk zad4 (defScope (inClass (top 34) 1)) (["number"] : List Str) (["self", "row", "had", "number"] : List Str) [0, 2] (["number", "self", "had"] : List Str) := compOk rfl (by decide +kernel) (by decide +kernel) (by decide +kernel) (by decide +kernel) rfl (by decide +kernel)
theorem zaii : AK (relab zad4 (defScope (inClass (top 34) 1))) ["number"] := ⟨by decide +kernel⟩
theorem zan3 : AG (relab zad4 (defScope (inClass (top 34) 1))) ["block_bit"] := ⟨by decide +kernel⟩
theorem zad5 : AV (relab zad4 (defScope (inClass (top 34) 1))) ["number", "self", "had"] := ⟨by decide +kernel⟩
def zaft : Scope := { kind := PySem.ScopeKind.function, names := [ (PySem.Str.ofString ".0", PySem.NameKind.local), (PySem.Str.ofString "word", PySem.NameKind.local), (PySem.Str.ofString "number", PySem.NameKind.local), (PySem.Str.ofString "had", PySem.NameKind.free)], isGenerator := false, isCoroutine := false, more := [] : PySem.Scope }
theorem zafu : CompOk zaft (defScope (inClass (top 34) 1)) (["word", "number"] : List Str) (["self", "row", "had", "number"] : List Str) [2] (["word", "number", "had"] : List Str) := compOk rfl (by decide +kernel) (by decide +kernel) (by decide +kernel) (by decide +kernel) rfl (by decide +kernel)
theorem zad6 : AK (relab zaft (defScope (inClass (top 34) 1))) ["word", "number"] := ⟨by decide +kernel⟩
theorem zafv : AV (relab zaft (defScope (inClass (top 34) 1))) ["word", "number", "had"] := ⟨by decide +kernel⟩
structure SilK (K : PySem.W.Frag) (sa : Addr) : Prop where
 t : ∀ H, SqT K H sa [.str "none", .int 0]
structure PlOk (ins : Nat) (bs : List Bk) (os : List Src) (order : List Nat) : Prop where
 b : ∀ b ∈ bs, b.ok ins bs.length
 o : ∀ s ∈ os, s.2 < lim ins bs.length s.1
 kh : Kahn (looseOf bs) (lsOf bs) order []
 al : ∀ n ∈ looseOf bs, n ∈ order
 lb : bs.length ≤ 40
 lo : os.length ≤ 40
def spBtX (C CR : Addr) : Sp := fun vs H Q E => ∃ (knd : SK) (y dx r : Addr) (ins : Nat) (bt ot ol kd : Addr) (bs : List Bk) (os : List Src) (order : List Nat) (kv : Nat → Bool) (xs : List V), vs = [.ref y, .ref r] ∧ PlP C H y dx ins bt ot ol kd bs os order kv ∧ PlOk ins bs os order ∧ SqX knd H r xs ∧ (∀ x ∈ xs, Th H x) ∧ xs.length ≤ 1000 ∧
 ((Odd xs ins ∧ ∀ H', Ch [] H H' → E (.ref CR) none H') ∨
 ∃ (row : List Bool) (v : Nat → Bool), xs = row.map bV ∧ row.length = ins ∧ Sol bs row kv v ∧ ∀ res kd' H', Ch [y] H H' → H res = none → H kd' = none → res ≠ kd' → H' res = some (.lst ((os.map (srcV row v)).map bV)) →
  PlP C H' y dx ins bt ot ol kd' bs os order (nxV bs row v) → Q (.ref res) H')
theorem scBt : FnScope ["self", "row", "had", "number"] ["self", "row"] (defScope (inClass (top 34) 1)) := ⟨rfl, rfl, rfl, by decide +kernel, rfl, by decide +kernel, by decide +kernel⟩
theorem zauu {C CR sa : Addr} (F : Fun K "beat" "BlockPlayer.beat" (inClass (top 34) 1) f fd) (cl : Cls K C) (nI : NoAttr K C "ins") (nB : NoAttr K C "blocks") (nO : NoAttr K C "outs") (nR : NoAttr K C "order") (nH : NoAttr K C "kept")
  (Dask_bits : DefOk P w K mg base (CXE P w) k "ask_bits" ["row", "length"] (spBitsX CR)) (Dblock_bit : DefOk P w K mg base CX0 k "block_bit" ["block", "had"] spBB) (z_list : mg "list" = none) (z_dict : mg "dict" = none) (m_SILENCE : mg "SILENCE" = some (.ref sa)) (sil : SilK K sa) : FnOk P w K mg base (CXE P w) (k + 1) f fd ["self", "row"] (spBtX C CR) := by
 have nd := scBt.nd
 refine F.okE scBt (fun vs H Q E h => by obtain ⟨knd, y, dx, r, ins, bt, ot, ol, kd, bs, os, order, kv, xs, rfl, _⟩ := h; rfl) (fun cdv A outer s H vs Q E hr h => ?_)
 obtain ⟨knd, y, dx, r, ins, bt, ot, ol, kd, bs, os, order, kv, xs, rfl, ⟨hy, pk, hol, hkd⟩, ok, hrow, hth, hlen, q⟩ := h
 have hu := zagk hr
 refine ⟨_, (Pr.h (zaad (zabu (zaam Dask_bits hr (gl34m1.g 0 rfl) passE (zaaa (qv av34m1 1 rfl) (zaaa (zact (qv av34m1 0 rfl) rfl) zaab zacd) zaac) zajj)) (zaad (zaax (i := 2) nd rfl (av34m1.l 2 rfl) (zaj0 (zadd zabm (zabe zaet (gl34m1.g 3 rfl) z_list zacu (zaaa (qv av34m1 1 rfl) zaab zaac) zacv zacw) (zadd zabm (zabe zakw (gl34m1.g 2 rfl) z_dict zacx (zaaa (zact (qv av34m1 0 rfl) rfl) zaab zacd) zacy zacz) (zadd (zaar zaa2 (zabs (v := .ref _) (gl34m1.g 1 rfl) m_SILENCE rfl zak4) zaae (fun _ _ => rfl)) (zabz (zaaa zaae zaab zaaq)) zajz))) rfl rfl (by intro z; cases z) (by decide))) (zaad (zabp powE rfl (zabj (zact (qv av34m1 0 rfl) rfl)) (zaap (i := 3) nd rfl (av34m1.l 3 rfl)) (zaah (zadw hu (zabi hu (qv av34m1 2 rfl) zabm (fun _ _ => rfl)) (qv av34m1 3 rfl) (zaam Dblock_bit hr (gl34m1.g 4 rfl) pass0 (zaaa (zaar zaa2 (zact (qv av34m1 0 rfl) rfl) (qv av34m1 3 rfl) (fun _ _ => rfl)) (zaaa (qv av34m1 2 rfl) zaab zaac) zaau) zaew) rfl))) (zaad (zac7 (qv av34m1 0 rfl) (zabe (zac1 rfl) (gl34m1.g 2 rfl) z_dict zacx (zaaa (zap0 (zaa7 rfl zaih (zags (zact (qv av34m1 0 rfl) rfl)) (fun _ _ _ _ _ => (zaap (i := 0) zaih.nd rfl (Or.inl (zaii.k 0 rfl)) (Or.inr (zaii.k 0 rfl)))) (fun _ _ _ _ _ => zaa9) (fun _ _ _ _ _ => (zach (zaaa (qw zad5 0 rfl) (zaaa (zaam Dblock_bit hr (zan3.g 0 rfl) pass0 (zaaa (zaar (zacj K rfl) (zapr K rfl (qw zad5 1 rfl) rfl) (qw zad5 0 rfl) (fun _ _ => rfl)) (zaaa (qw zad5 2 rfl) zaab zaac) zaau) zaew) zaab zabf) zaac))))) zaab zaa0) zacy zacz) rfl) (zaah (zaas (zaa7 rfl zafu (zal3 (zact (qv av34m1 0 rfl) rfl)) (fun _ _ _ _ _ => (zack K 2 rfl rfl (zaa3 (zaap (i := 0) zafu.nd rfl (Or.inl (zad6.k 0 rfl)) (Or.inr (zad6.k 0 rfl))) (zaa3 (zaap (i := 1) zafu.nd rfl (Or.inl (zad6.k 1 rfl)) (Or.inr (zad6.k 1 rfl))) zacc)))) (fun _ _ _ _ _ => zaa9) (fun _ _ _ _ _ => (zaar (zamt hu K rfl) (zabi hu (qw zafv 2 rfl) (qw zafv 0 rfl) (fun _ _ => rfl)) (qw zafv 1 rfl) (fun _ _ => rfl))))))))))), ?_⟩
 (try dsimp only [cxOf])
 have f1 := @fb_i ins bt ot ol kd
 have f2 := @fb_b ins bt ot ol kd
 have f3 := @fb_o ins bt ot ol kd
 have f4 := @fb_r ins bt ot ol kd
 have f5 := @fb_k ins bt ot ol kd
 walk_at "rd"
 refine ⟨fun el al H1 c1 => ?_, fun z H1 c1 => ?_⟩
 ·rcases q with ⟨od, _⟩ | ⟨row, v, rfl, el2, so, q⟩
  ·rcases od with h | ⟨x, hx, h⟩
   ·exact (h el).elim
   ·exact (h (al x hx)).elim
  have hy1 := c1.get hy (by simp)
  have hk1 := c1.get hkd (by simp)
  have hrow1 := (hrow.ch c1).or (K := K)
  have sl1 := sil.t H1
  walk_at "rd"
  rename_i d hd
  obtain ⟨H2, e2⟩ : ∃ H2, upd H1 d (HO.dK []) = H2 := ⟨_, rfl⟩
  have c2 : Ch [] H1 H2 := by rw [← e2]; exact Ch.new hd _
  have hd2 : H2 d = some (.dK []) := by rw [← e2]; exact zaag
  rw [e2]
  clear e2
  refine ⟨((hrow.ch c1).ch c2).or, ?_⟩
  have hy2 : H2 y = some (.ins C dx (fldsB ins bt ot ol kd)) := c2.get hy1 (by simp)
  have hk2 := c2.get hk1 (by simp)
  walk_at "rd"
  rename_i rl hrl bd hbd
  refine ⟨sil.t _, Atx.of (v := .str "none") rfl ?_⟩
  walk_at "rd"
  rename_i zl hzl
  refine ⟨(show _ = List.map (fun kv => (kV kv.1, kv.2)) (hadK rl bd zl) from rfl), (by show (3 : Nat) ≤ 15; decide), ?_⟩
  rw [show mergeK [] (hadK rl bd zl) = hadK rl bd zl from rfl]
  have c12 := c1.trans c2
  have b0 : H bd = none := chFree (c12.trans (Ch.new hrl _)) hbd
  have c4 : Ch [] H (upd (upd (upd (upd H2 rl (.lst (row.map bV))) bd (.dK (keptD bs kv))) zl (.lst [.int 0])) d (.dK (hadK rl bd zl))) := Ch.own (chFree c1 hd) (((c12.trans (Ch.new hrl _)).trans (Ch.new hbd _)).trans (Ch.new hzl _))
  have dbd : d ≠ bd := zaao (zabq hrl hd2) hbd
  have h4 : Hd (upd (upd (upd (upd H2 rl (.lst (row.map bV))) bd (.dK (keptD bs kv))) zl (.lst [.int 0])) d (.dK (hadK rl bd zl))) d rl bd zl row (keptD bs kv) :=
   ⟨zaag, zabg (zaao hd2 hrl).symm (zabq hzl (zabq hbd zaag)), zabg dbd.symm (zabq hzl zaag)⟩
  have d0 : H d = none := chFree c1 hd
  generalize upd (upd (upd (upd H2 rl (.lst (row.map bV))) bd (.dK (keptD bs kv))) zl (.lst [.int 0])) d (.dK (hadK rl bd zl)) = H4 at c4 h4 ⊢
  clear hy2 hy1 hk2 hk1 hrow1 sl1 hd2 c2 c1 c12 hd hrl hbd hzl hrow hth al
  obtain ⟨ps, hbt, bts⟩ := zaus pk
  have lp := Paired.length bts
  have lo40 := ok.lo
  have lb40 := ok.lb
  have hy4 := c4.get hy (by simp)
  have ho4 := c4.get hol (by simp)
  have kL := ok.kh.le
  have lL : (looseOf bs).length ≤ bs.length := by
   have := List.length_filter_le (loB bs) (List.range bs.length)
   rwa [List.length_range] at this
  have kl := zad2 bs
  walk_at "rd"
  have h4' : Hd H4 d rl bd zl row (wD (keptOf bs ++ order.take 0) fun n => bV (v n)) := by
   rw [List.take_zero, List.append_nil, zadx (g' := fun n => bV (kv n)) (fun n hn => by rw [so.k n hn])]
   exact h4
  refine zadb (xs := order.map nV) (fun i σ H' => Ch [] H H' ∧ Hd H' d rl bd zl row (wD (keptOf bs ++ order.take i) fun n => bV (v n)) ∧ ∃ u, σ = [some (.ref y), some (.ref r), some (.ref d), u]) ⟨c4, h4', _, rfl⟩ ?_ ?_ ?_
  ·rintro i σ H' hi ⟨c, _⟩
   exact SqL.of (c.get hol (by simp))
  ·clear c4 h4 h4' hy4 ho4
   rintro i z σ H' hz ⟨c, hh, u, rfl⟩
   rw [List.getElem?_map] at hz
   obtain ⟨x, hx, rfl⟩ := Option.map_eq_some_iff.mp hz
   have xo := List.mem_of_getElem? hx
   have xl := ok.kh.ol x xo
   have xlt := zady xl
   obtain ⟨p, b, e1, e2, bk⟩ := zaf6 bts x xlt
   have bk := BgAt.tu (Tu.same c) bk
   have okb := ok.b b (List.mem_of_getElem? e2)
   have b0k : b.kept = 0 := by
    have := (List.mem_filter.mp xl).2
    rw [zadm e2] at this
    simpa using this
   have kn : Knows row (wD (keptOf bs ++ order.take i) fun n => bV (v n)) v b.ss := zaut ok.b e2 el2 (fun m hm => List.mem_append.mpr (.inl hm)) (fun m hm => List.mem_append.mpr (.inr (ok.kh.tp i x hx m hm)))
   have vx := so.l x b e2 b0k
   have hdd := hh.d
   have hvb : valV (hadK rl bd zl) (.inr "block") = some (.ref bd) := rfl
   have hyc := c.get hy (by simp)
   have hbc := c.get hbt (by simp)
   have nw : x ∉ keptOf bs ++ order.take i := fun hm => by
    rcases List.mem_append.mp hm with hm | hm
    ·have := (List.mem_filter.mp hm).2
     rw [zagg e2, b0k] at this
     cases this
    ·obtain ⟨j, hj, ej⟩ := List.getElem_of_mem hm
     have hj2 : j < i := by rw [List.length_take] at hj; omega
     have hi2 := (List.getElem?_eq_some_iff.mp hx).1
     rw [List.getElem_take] at ej
     have := (List.getElem_inj (h₀ := by omega) (h₁ := hi2) ok.kh.no (i := j) (j := i)).mp (by rw [ej]; exact (List.getElem?_eq_some_iff.mp hx).2.symm)
     omega
   have hz2 : (wD (keptOf bs ++ order.take i) fun n => bV (v n)).length < sizeLine := by
    unfold wD
    rw [List.length_map, List.length_append, List.length_take, sizeLine_eq]
    omega
   unfold nV
   walk_at "rd"
   refine ⟨okb.s4, hh, kn, fun H6 c6 => ?_⟩
   have h6 := hh.ch c6
   have h6d := h6.d
   have h6b := h6.b
   rw [← vx]
   clear hdd hyc hbc
   walk_at "rd"
   rw [zaji (g := fun n => bV (v n)) nw]
   have et : order.take (i + 1) = order.take i ++ [x] := by rw [List.take_add_one, hx]; rfl
   rw [et, ← List.append_assoc]
   exact ⟨⟨zabg dbd h6d, zabg (zabl h6.r h6b (by intro z; cases z)) h6.r, zaag⟩, _, rfl⟩
  ·rintro σ H5 ⟨c5, h5, u, rfl⟩
   rw [List.length_map, List.take_length] at h5
   clear c4 h4 h4' hy4 ho4
   have hy5 := c5.get hy (by simp)
   have hk5 := c5.get hkd (by simp)
   walk_at "rd"
   rename_i ob
   have nyk : y ≠ kd := zabl hy5 hk5 (by intro z; cases z)
   have hf : Hd (upd H5 kd (.frz ob (.dK (keptD bs kv)))) d rl bd zl row (wD (keptOf bs ++ order) fun n => bV (v n)) :=
    ⟨zabg (zaao hkd d0).symm h5.d, zabg (zabl h5.r hk5 (by intro z; cases z)) h5.r, zabg (zaao hkd b0).symm h5.b⟩
   have yf : (upd H5 kd (.frz ob (.dK (keptD bs kv)))) y = some (.ins C dx (fldsB ins bt ot ol kd)) := zabg nyk hy5
   have tuf : Tu H (upd H5 kd (.frz ob (.dK (keptD bs kv)))) := (Tu.same c5).trans (Tu.ch Ch.put hk5 (fun _ z => by cases z))
   have kf : (upd H5 kd (.frz ob (.dK (keptD bs kv)))) kd = some (.frz ob (.dK (keptD bs kv))) := zaag
   have thw : ∀ H', Ch [] (upd H5 kd (.frz ob (.dK (keptD bs kv)))) H' → Ch [] H5 (upd H' kd (.dK (keptD bs kv))) := fun H' c => Ch.thaw c hk5
   generalize upd H5 kd (.frz ob (.dK (keptD bs kv))) = HF at hf yf tuf kf thw ⊢
   have kD : (keptD bs kv).length = (keptOf bs).length := by unfold keptD wD; rw [List.length_map]
   have hbF := tuf _ _ hbt
   have knw : ∀ (n : Nat) (b : Bk), bs[n]? = some b → Knows row (wD (keptOf bs ++ order) fun n => bV (v n)) v b.ss := fun n b e => zaut ok.b e el2 (fun m hm => List.mem_append.mpr (.inl hm)) (fun m hm => List.mem_append.mpr (.inr (ok.al m (zae2 hm ins ok.b))))
   refine zamq (keptD bs kv) (fun i ys σ H' => WC HF H' ((keptOf bs).take i) (fun n => bV (nxV bs row v n)) ys ∧ ∃ u, σ = [u, some (.ref y), some (.ref d)]) (by rw [sizeLine_eq, kD]; omega) ⟨⟨Ch.refl _ _, [], rfl, .nil⟩, _, rfl⟩ ?_ ?_ ?_
   ·rintro i ys σ H' hi ⟨⟨c, ts, rfl, tt⟩, _⟩
    refine ⟨?_, c.get kf (by simp)⟩
    rw [List.length_map, Paired.length tt]
    unfold wD
    rw [List.length_map, List.length_take]
    omega
   ·rintro i ys σ H' kv' hkv ⟨⟨c, ts, rfl, tt⟩, u, rfl⟩
    unfold keptD wD at hkv
    rw [List.getElem?_map] at hkv
    obtain ⟨n, hn, rfl⟩ := Option.map_eq_some_iff.mp hkv
    have hn2 := zag6 (List.mem_of_getElem? hn)
    obtain ⟨p, b, e1, e2, bk⟩ := zaf6 bts n hn2
    have bk := BgAt.tu (tuf.trans (Tu.same c)) bk
    have okb := ok.b b (List.mem_of_getElem? e2)
    have hh := hf.ch c
    have yc := c.get yf (by simp)
    have hbc := c.get hbF (by simp)
    have kn := knw n b e2
    have nx := zaqy (row := row) (v := v) e2
    dsimp only [kV]
    walk_at "rd"
    refine ⟨okb.s4, hh, kn, fun H6 c6 => ?_⟩
    rw [← nx]
    walk_at "rd"
    rename_i T hT
    refine ⟨⟨(c.trans c6).trans (Ch.new hT _), ts ++ [T], by simp, ?_⟩, _, rfl⟩
    rw [zanc _ hn]
    refine zaen ?_ (zafo (c6.trans (Ch.new hT _)) tt)
    rw [zaag]
    rfl
   rintro ys σ H6 ⟨⟨c6, ts, rfl, tt⟩, _⟩
   rw [kD, List.take_length] at tt
   intro D hD
   have kf6 := c6.get kf (by simp)
   refine ⟨kd, ob, keptD bs kv, zabq hD kf6, (fun b u z => by have z : H kd = some (.frz b u) := z; rw [hkd] at z; cases z), ?_⟩
   have c7 := thw _ (c6.trans (Ch.new hD (.lst (ts.map V.ref))))
   have nDk : D ≠ kd := (zaao kf6 hD).symm
   have d7 : (upd (upd H6 D (.lst (ts.map V.ref))) kd (.dK (keptD bs kv))) D = some (.lst (ts.map V.ref)) := zabg nDk zaag
   have tu67 : Tu H6 (upd (upd H6 D (.lst (ts.map V.ref))) kd (.dK (keptD bs kv))) := (Tu.new _ hD).trans (Tu.ch Ch.put (zabq hD kf6) (fun _ z => by cases z))
   have tt7 : TsAt (upd (upd H6 D (.lst (ts.map V.ref))) kd (.dK (keptD bs kv))) ts (wD (keptOf bs) fun n => bV (nxV bs row v n)) := zaal (fun _ _ e => tu67 _ _ e) tt
   generalize upd (upd H6 D (.lst (ts.map V.ref))) kd (.dK (keptD bs kv)) = H7 at c7 d7 tt7 ⊢
   clear tu67 hf yf tuf kf thw hbF kf6 c6 hD tt
   walk_at "rd"
   refine ⟨Paired.length tt7, zak0 tt7, zafn (zadk bs), (by unfold wD; rw [List.length_map, sizeLine_eq]; omega), fun k2 hk2 => ?_⟩
   have cK : Ch [] H5 (upd H7 k2 (.dK (keptD bs (nxV bs row v)))) := c7.trans (Ch.new hk2 _)
   have gk : (upd H7 k2 (.dK (keptD bs (nxV bs row v)))) k2 = some (.dK (keptD bs (nxV bs row v))) := zaag
   have k20 : H k2 = none := chFree (c5.trans c7) hk2
   generalize upd H7 k2 (.dK (keptD bs (nxV bs row v))) = H8 at cK gk ⊢
   have h8 := h5.ch cK
   have y8 := cK.get hy5 (by simp)
   have c58 := c5.trans cK
   have nk : k2 ≠ y := (zaao hy k20).symm
   clear c7 d7 tt7 hk2 h5 hy5 hk5 cK
   walk_at "rd"
   rw [zaur]
   have c9 : Ch [y] H8 (upd H8 y (.ins C dx (fldsB ins bt ot ol k2))) := Ch.put
   have y9 : (upd H8 y (.ins C dx (fldsB ins bt ot ol k2))) y = some (.ins C dx (fldsB ins bt ot ol k2)) := zaag
   have g9 : (upd H8 y (.ins C dx (fldsB ins bt ot ol k2))) k2 = some (.dK (keptD bs (nxV bs row v))) := zabg nk gk
   have h9 : Hd (upd H8 y (.ins C dx (fldsB ins bt ot ol k2))) d rl bd zl row (wD (keptOf bs ++ order) fun n => bV (v n)) :=
    ⟨zabg (zabl h8.d y8 (by intro z; cases z)) h8.d, zabg (zabl h8.r y8 (by intro z; cases z)) h8.r, zabg (zabl h8.b y8 (by intro z; cases z)) h8.b⟩
   generalize upd H8 y (.ins C dx (fldsB ins bt ot ol k2)) = H9 at c9 y9 g9 h9 ⊢
   have cF : Ch [y] H H9 := c58.wk.trans c9
   have tuF := Tu.ch cF hy (fun _ z => by cases z)
   obtain ⟨ops, hot, ops2⟩ := pk.o
   have hot9 := tuF _ _ hot
   have lops := Paired.length ops2
   rw [List.length_map] at lops
   have o9 : H9 ol = some (.lst (order.map nV)) := cF.get hol (by have := zabl hol hy (by intro z; cases z); simpa using this)
   have f3 := @fb_o ins bt ot ol k2
   have h9d := h9.d
   walk_at "rd"
   refine zagm (ops.map V.ref) (fun j ys σ H'' => H'' = H9 ∧ ys = ((os.take j).map (srcV row v)).map bV ∧ ∃ u v, σ = [u, v, some (.ref d)]) (by rw [sizeLine_eq, List.length_map]; omega) ⟨rfl, rfl, _, _, rfl⟩ ?_ ?_ ?_
   ·rintro j ys σ H'' hj ⟨rfl, rfl, _⟩
    refine ⟨?_, SqT.of hot9⟩
    rw [List.length_map, List.length_map, List.length_take]; omega
   ·rintro j ys σ H'' z hz ⟨rfl, rfl, u, v', rfl⟩
    obtain ⟨pl, xx, rfl, g1, ⟨g2, _⟩⟩ := zaba ops2 j z hz
    rw [List.getElem?_map] at g1
    obtain ⟨sr, es, rfl⟩ := Option.map_eq_some_iff.mp g1
    have so2 := ok.o sr (List.mem_of_getElem? es)
    have et : os.take (j + 1) = os.take j ++ [sr] := by rw [List.take_add_one, es]; rfl
    rw [et, List.map_append, List.map_append]
    have g2 : H'' pl = some (.tup [.str (wd sr.1), .int (sr.2 : Int)]) := tuF _ _ g2
    have vw := zan2 (rl := rl) (bd := bd) (zl := zl) sr
    have kn := zaqz (v := v) (L := keptOf bs ++ order) el2 so2 (fun h => by
     rw [h] at so2
     rcases zaig ok.b (show sr.2 < bs.length from so2) with ⟨_, z⟩ | z
     ·exact List.mem_append.mpr (.inr (ok.al _ z))
     ·exact List.mem_append.mpr (.inl z))
    walk_at "rd"
    refine zaqw h9 kn ?_
    exact ⟨rfl, by simp, _, _, rfl⟩
   ·rintro ys σ HZ ⟨rfl, rfl, _⟩
    intro R hR
    rw [List.length_map, ← lops, List.take_length]
    have cR : Ch [] HZ (upd HZ R (.lst ((os.map (srcV row v)).map bV))) := Ch.new hR _
    have hR0 : H R = none := by
     cases e : H R with
     | none => rfl
     | some o => rw [cF.get e (by have := zaao y9 hR; simpa using this.symm)] at hR; cases hR
    exact q R k2 _ (cF.trans cR.wk) hR0 k20 (zaao g9 hR).symm zaag ⟨cR.get y9 (by simp), (pk.tu tuF).tu (Tu.same cR), cR.get o9 (by simp), cR.get g9 (by simp)⟩
 ·rcases q with ⟨od, q⟩ | ⟨row, v, rfl, el2, _⟩
  ·exact q H1 c1
  ·exfalso
   rcases z with h | ⟨x, hx, h⟩
   ·exact h (by rw [List.length_map, el2])
   ·obtain ⟨b, _, rfl⟩ := List.mem_map.mp hx
    exact h (by cases b <;> rfl)
end
end

section
theorem zaka : ∀ (bs : List Bool) (b : Bool), num (bs ++ [b]) = num bs + (if b then 2 ^ bs.length else 0)
 | [], b => by cases b <;> rfl
 | a :: r, b => by
  rw [List.cons_append, num, zaka r b, num, List.length_cons, Nat.pow_succ]
  cases b <;> simp <;> omega
theorem zasq (B : Int) (i : Nat) : B / 2 ^ i / 2 = B / 2 ^ (i + 1) := by
 rw [Int.pow_succ, Int.ediv_ediv_of_nonneg (Int.le_of_lt (Int.pow_pos (by decide)))]
section
variable {P : Program} {w : World} {K : PySem.W.Frag} {mg : Str → Option Value} {base : Heap} {f : Addr} {fd : FuncData} {k : Nat}
theorem gl41 : AG (defScope (top 41)) ["range", "len"] := ⟨by decide +kernel⟩
theorem av41 : AF (defScope (top 41)) ["_law_bits", "_law_feeds", "_law_j", "_law_k"] := ⟨by decide +kernel⟩
def spLB : Sp := fun vs H Q _ => ∃ (bits : Int) (r : Addr) (bs : List Bool), vs = [.int bits, .ref r] ∧ H r = some (.lst (bs.map bV)) ∧ bs.length ≤ 4 ∧ ∀ H', Ch [] H H' → Q (bV (tbit bits bs)) H'
theorem scLB : FnScope ["_law_bits", "_law_feeds", "_law_j", "_law_k"] ["_law_bits", "_law_feeds"] (defScope (top 41)) := ⟨rfl, rfl, rfl, by decide +kernel, rfl, by decide +kernel, by decide +kernel⟩
theorem zavn (F : Fun K "_law_bit" "_law_bit" (top 41) f fd) (z_range : mg "range" = none) (z_len : mg "len" = none) : FnOk P w K mg base CX0 (k + 1) f fd ["_law_bits", "_law_feeds"] spLB := by
 have nd := scLB.nd
 refine F.ok scLB (fun vs H Q E h => by obtain ⟨bits, r, bs, rfl, _⟩ := h; rfl) (fun cdv A outer s H vs Q E hr h => ?_)
 obtain ⟨bits, r, bs, rfl, hr0, l4, q⟩ := h
 refine ⟨_, (Pr.h (zaad (zabp PassesOwn.never rfl (zabk (gl41.g 0 rfl) z_range (zaaa (zaaf zaan (gl41.g 1 rfl) z_len PySem.boot_len (zaaa (qv av41 1 rfl) zaab zaac) zabc zabd) zaab zabf)) (zaap (i := 2) nd rfl (av41.l 2 rfl)) (zaah (zabp PassesOwn.never rfl (zabk (gl41.g 0 rfl) z_range (zaaa (zaaz zaer (zaar zaa4 (zabz (zaaa zaae (zaaa zaae (zaaa zaae (zaaa zaae zaab zaaq) zaaq) zaaq) zaaq)) (qv av41 2 rfl) (fun _ _ => rfl)) (zaar zaa4 (qv av41 1 rfl) (qv av41 2 rfl) (fun _ _ => rfl))) zaab zacb)) (zaap (i := 3) nd rfl (av41.l 3 rfl)) (zaah (zaax (i := 0) nd rfl (av41.l 0 rfl) (zaaz zac4 (qv av41 0 rfl) zaae)))))) (zaah (zaas (zaaz zab6 (qv av41 0 rfl) zaae))))), ?_⟩
 (try dsimp only [cxOf])
 walk_at "rd"
 refine zacl (fun i σ H' => Ch [] H H' ∧ ∃ u v, σ = [some (.int (bits / 2 ^ num (bs.take i))), some (.ref r), u, v]) ⟨Ch.refl _ _, _, _, by simp [num]; rfl⟩ ?_ ?_
 ·rintro i σ H' hi ⟨c, u, v, rfl⟩
  have hi2 : i < bs.length := by simpa using hi
  have hr1 := c.get hr0 (by simp)
  have e := List.getElem?_eq_getElem hi2
  have ea : atI (bs.map bV) (0 + (i : Int)) = some (.int (bi bs[i])) := by rw [Int.zero_add]; exact zaec (by rw [List.getElem?_map, e]; rfl)
  have ew : atI [V.int 1, V.int 2, V.int 4, V.int 8] (0 + (i : Int)) = some (.int (2 ^ i)) := by
   have : i = 0 ∨ i = 1 ∨ i = 2 ∨ i = 3 := by omega
   rcases this with rfl | rfl | rfl | rfl <;> rfl
  have et : bs.take (i + 1) = bs.take i ++ [bs[i]] := by rw [List.take_add_one, e]; rfl
  have nn : num (bs.take (i + 1)) = num (bs.take i) + ((2 : Int) ^ i * bi bs[i]).toNat := by
   rw [et, zaka, List.length_take, Nat.min_eq_left (Nat.le_of_lt hi2)]
   cases bs[i] <;> simp [bi]
   exact (Int.toNat_natCast _).symm.trans (by rw [Int.natCast_pow]; rfl)
  have b1 : (2 : Int) ^ i * bi bs[i] < 2 ^ 62 ∧ -2 ^ 62 ≤ (2 : Int) ^ i * bi bs[i] := by
   have : i = 0 ∨ i = 1 ∨ i = 2 ∨ i = 3 := by omega
   cases bs[i] <;> rcases this with rfl | rfl | rfl | rfl <;> decide
  have cm : CMul ((2 : Int) ^ i) (bi bs[i]) := .inr (by cases bs[i] <;> decide)
  have b2 := b1.1
  have b3 := b1.2
  walk_at "rd"
  rename_i p1 hp1
  generalize (2 : Int) ^ i * bi bs[i] = m at *
  refine zacl (fun j σ H'' => Ch [] H H'' ∧ ∃ v, σ = [some (.int (bits / 2 ^ (num (bs.take i) + j))), some (.ref r), some (.int (0 + (i : Int))), v]) ⟨c.trans (Ch.new hp1 _), _, rfl⟩ ?_ ?_
  ·rintro j σ H'' hj ⟨c2, v2, rfl⟩
   walk_at "rd"
   exact congrArg (fun z => [some (V.int z), some (V.ref r), some (V.int (0 + (i : Int))), some (V.int (0 + (j : Int)))]) (zasq bits (num (bs.take i) + j))
  ·rintro σ H'' ⟨c2, v2, rfl⟩
   rw [nn]
   exact ⟨c2, _, _, rfl⟩
 ·rintro σ H' ⟨c, u, v, rfl⟩
  walk_at "rd"
  rw [List.length_map, Int.toNat_natCast, List.take_length]
  dsimp only
  rw [zaqv]
  exact q H' c
end
end

section
theorem zakb {H : Hp} {a : Addr} {kvs : List (Key × V)} {i : Int} {v : V} (e : Rd H a (.dK kvs)) (h : valV kvs (.inl i) = some v) : DGet H a (.int i) (some v) := .inl ⟨kvs, .inl i, e, rfl, h.symm⟩
structure Kp2 (H H' : Hp) : Prop where
 t : Tu H H'
 l : ∀ p xs, H p = some (.lst xs) → H' p = some (.lst xs)
theorem Kp2.of {H H' : Hp} {a : Addr} {kvs : List (Key × V)} (c : Ch [a] H H') (h : H a = some (.dK kvs)) : Kp2 H H' :=
 ⟨Tu.ch c h (fun _ z => by cases z), fun p xs e => c.get e (by have := zabl e h (by intro z; cases z); simpa using this)⟩
theorem Kp2.bk {H H' : Hp} (k : Kp2 H H') {t : BG} {p : Addr} (s : BgAt .list H t p) : BgAt .list H' t p := by
 cases t with
 | odd => obtain ⟨ys, h, n⟩ := s; exact ⟨ys, k.t _ _ h, n⟩
 | bk ls bits kept first => obtain ⟨lp, ps, h, q, w⟩ := s; exact ⟨lp, ps, k.t _ _ h, k.l _ _ q, zaal (fun _ _ e => PgAt.tu k.t e) w⟩
theorem Rd.ch1 {H H' : Hp} {a b : Addr} {o : HO} (r : Rd H a o) (c : Ch [b] H H') (n : a ≠ b) : Rd H' a o := by
 rcases r with r | ⟨ob, r⟩
 ·exact .inl (c.get r (by simpa using n))
 ·exact .inr ⟨ob, c.get r (by simpa using n)⟩
def KnV (bs : List Bk) (v : Nat → Bool) (kvs : List (Key × V)) : Prop := ∃ L : List Nat, kvs = (wD L fun n => bV (v n)) ∧ L.Nodup ∧ ∀ m ∈ L, m ∈ looseOf bs
theorem KnV.put {bs : List Bk} {v : Nat → Bool} {kvs : List (Key × V)} (h : KnV bs v kvs) {m : Nat} (hm : m ∈ looseOf bs) : KnV bs v (putK kvs (.inl (m : Int)) (bV (v m))) ∧ valV (putK kvs (.inl (m : Int)) (bV (v m))) (.inl (m : Int)) = some (bV (v m)) := by
 obtain ⟨L, rfl, nd, al⟩ := h
 by_cases e : m ∈ L
 ·have e2 : putK (wD L fun n => bV (v n)) (.inl (m : Int)) (bV (v m)) = wD L fun n => bV (v n) := by
   rw [zam9 _ e]
   refine zadx fun n _ => ?_
   split
   ·rename_i z; rw [z]
   ·rfl
  rw [e2]
  exact ⟨⟨L, rfl, nd, al⟩, zado e⟩
 ·rw [zaji (g := fun n => bV (v n)) e]
  refine ⟨⟨L ++ [m], rfl, ?_, fun x hx => ?_⟩, zado (by simp)⟩
  ·rw [List.nodup_append]
   exact ⟨nd, by simp, fun a ha b hb => by have : b = m := by simpa using hb
                                           rw [this]; exact fun z => e (z ▸ ha)⟩
  ·rcases List.mem_append.mp hx with hx | hx
   ·exact al x hx
   ·rw [List.mem_singleton.mp hx]; exact hm
theorem KnV.len {bs : List Bk} {v : Nat → Bool} {kvs : List (Key × V)} (h : KnV bs v kvs) : kvs.length ≤ bs.length := by
 obtain ⟨L, rfl, nd, al⟩ := h
 unfold wD
 rw [List.length_map]
 have := zab5 nd al
 have h2 := List.length_filter_le (loB bs) (List.range bs.length)
 rw [List.length_range] at h2
 exact Nat.le_trans this h2
theorem KnV.case {bs : List Bk} {v : Nat → Bool} {kvs : List (Key × V)} (h : KnV bs v kvs) (m : Nat) : valV kvs (.inl (m : Int)) = none ∨ valV kvs (.inl (m : Int)) = some (bV (v m)) := by
 obtain ⟨L, rfl, nd, al⟩ := h
 by_cases e : m ∈ L
 ·exact .inr (zado e)
 ·exact .inl (zasp e)
def Rk (bs : List Bk) (rk : Nat → Nat) : Prop := ∀ n ∈ looseOf bs, ∀ s ∈ lsOf bs n, rk s < rk n
structure Rn (H : Hp) (bl rl kd kn : Addr) (ins : Nat) (bs : List Bk) (ps : List Addr) (row : List Bool) (kv v : Nat → Bool) (kvs : List (Key × V)) : Prop where
 hbl : H bl = some (.lst (ps.map V.ref))
 hbs : Paired (BkAt .list H) bs ps
 ok : ∀ b ∈ bs, b.ok ins bs.length
 hrl : H rl = some (.lst (row.map bV))
 rn : row.length = ins
 hkd : Rd H kd (.dK (keptD bs kv))
 hkn : H kn = some (.dK kvs)
 ne : kd ≠ kn
 so : Sol bs row kv v
 hkv : KnV bs v kvs
 lb : bs.length ≤ 40
theorem Rn.next {H H' : Hp} {bl rl kd kn : Addr} {ins : Nat} {bs : List Bk} {ps : List Addr} {row : List Bool} {kv v : Nat → Bool} {kvs kvs' : List (Key × V)} (h : Rn H bl rl kd kn ins bs ps row kv v kvs) (c : Ch [kn] H H') (e : H' kn = some (.dK kvs')) (k : KnV bs v kvs') : Rn H' bl rl kd kn ins bs ps row kv v kvs' :=
 have kp := Kp2.of c h.hkn
 ⟨kp.l _ _ h.hbl, zaal (fun _ _ e => kp.bk e) h.hbs, h.ok, kp.l _ _ h.hrl, h.rn, Rd.ch1 h.hkd c h.ne, e, h.ne, h.so, k, h.lb⟩
section
variable {P : Program} {w : World} {K : PySem.W.Frag} {mg : Str → Option Value} {base : Heap} {f : Addr} {fd : FuncData} {k : Nat}
local macro_rules | `(tactic| walk_at "user") => `(tactic| first
 | (apply zabv; (focus walk_at "get"); (focus with_reducible assumption))
 | (apply zakb; (focus with_reducible assumption); (focus with_reducible assumption))
 | (apply zakv; (focus walk_at "get"); (focus with_reducible assumption))
 | (apply dputI; (focus walk_at "get"); (focus with_reducible assumption)))
theorem zadq : Nd "_law_had" := by decide +kernel
theorem zafw : Nd "_law_bit" := by decide +kernel
theorem av42 : AF (defScope (top 42)) ["_law_blocks", "_law_row", "_law_kept", "_law_source", "_law_known", "_law_k"] := ⟨by decide +kernel⟩
theorem gl42 : AG (defScope (top 42)) ["_law_bit"] := ⟨by decide +kernel⟩
def zag7 : Scope := { kind := PySem.ScopeKind.function, names := [ (PySem.Str.ofString ".0", PySem.NameKind.local), (PySem.Str.ofString "_law_one", PySem.NameKind.local), (PySem.Str.ofString "_law_had", PySem.NameKind.globalImplicit), (PySem.Str.ofString "_law_blocks", PySem.NameKind.free), (PySem.Str.ofString "_law_kept", PySem.NameKind.free), (PySem.Str.ofString "_law_known", PySem.NameKind.free), (PySem.Str.ofString "_law_row", PySem.NameKind.free)], isGenerator := false, isCoroutine := false, more := [] : PySem.Scope }
theorem zan4 : CompOk zag7 (defScope (top 42)) (["_law_one"] : List Str) (["_law_blocks", "_law_row", "_law_kept", "_law_source", "_law_known", "_law_k"] : List Str) [0, 1, 2, 4] (["_law_one", "_law_blocks", "_law_row", "_law_kept", "_law_known"] : List Str) := compOk rfl (by decide +kernel) (by decide +kernel) (by decide +kernel) (by decide +kernel) rfl (by decide +kernel)
theorem zan5 : AK (relab zag7 (defScope (top 42))) ["_law_one"] := ⟨by decide +kernel⟩
theorem zasr : AG (relab zag7 (defScope (top 42))) ["_law_had"] := ⟨by decide +kernel⟩
theorem zafx : AV (relab zag7 (defScope (top 42))) ["_law_one", "_law_blocks", "_law_row", "_law_kept", "_law_known"] := ⟨by decide +kernel⟩
def spLH (n : Nat) : Sp := fun vs H Q _ => ∃ (bl rl kd sp kn : Addr) (ins : Nat) (bs : List Bk) (ps : List Addr) (row : List Bool) (kv v : Nat → Bool) (kvs : List (Key × V)) (s : Src) (rk : Nat → Nat), vs = [.ref bl, .ref rl, .ref kd, .ref sp, .ref kn] ∧ Rn H bl rl kd kn ins bs ps row kv v kvs ∧ H sp = some (.tup (sg s)) ∧ s.2 < lim ins bs.length s.1 ∧ Rk bs rk ∧ (s.1 = true → s.2 ∈ looseOf bs → rk s.2 < n) ∧
 ∀ kvs' H', Ch [kn] H H' → H' kn = some (.dK kvs') → KnV bs v kvs' → Q (bV (srcV row v s)) H'
def spL : Nat → Sp
 | 0 => fun _ _ _ _ => False
 | n + 1 => spLH n
theorem scLH : FnScope ["_law_blocks", "_law_row", "_law_kept", "_law_source", "_law_known", "_law_k"] ["_law_blocks", "_law_row", "_law_kept", "_law_source", "_law_known"] (defScope (top 42)) := ⟨rfl, rfl, rfl, by decide +kernel, rfl, by decide +kernel, by decide +kernel⟩
theorem zauv (F : Fun K "_law_had" "_law_had" (top 42) f fd) : FnOk P w K mg base CX0 (k + 1) f fd ["_law_blocks", "_law_row", "_law_kept", "_law_source", "_law_known"] (spL 0) :=
 ⟨fun _ _ _ _ h => h.elim, fun _ _ _ _ _ _ _ _ _ _ _ _ _ h => h.elim⟩
theorem zavo (n : Nat) (F : Fun K "_law_had" "_law_had" (top 42) f fd) (D_law_had : DefOk P w K mg base CX0 k "_law_had" ["_law_blocks", "_law_row", "_law_kept", "_law_source", "_law_known"] (spL n)) (D_law_bit : DefOk P w K mg base CX0 k "_law_bit" ["_law_bits", "_law_feeds"] spLB) : FnOk P w K mg base CX0 (k + 1) f fd ["_law_blocks", "_law_row", "_law_kept", "_law_source", "_law_known"] (spL (n + 1)) := by
 have nd := scLH.nd
 refine F.ok scLH (fun vs H Q E h => by obtain ⟨bl, rl, kd, sp, kn, ins, bs, ps, row, kv, v, kvs, s, rk, rfl, _⟩ := h; rfl) (fun cdv A outer s H vs Q E hr h => ?_)
 obtain ⟨bl, rl, kd, sp, kn, ins, bs, ps, row, kv, v, kvs, sr, rk, rfl, R, hsp, sl, hrk, hlt, q⟩ := h
 have hu := zagk hr
 refine ⟨_, (Pr.h (zaad (zaa5 (zaat zacs (zaar zaa2 (qv av42 3 rfl) zaae (fun _ _ => rfl)) zabm (nomark _)) (zaah (zaas (zaar zaa4 (qv av42 1 rfl) (zaar zaa2 (qv av42 3 rfl) zaae (fun _ _ => rfl)) (fun _ _ => rfl)))) zaav) (zaad (zaax (i := 5) nd rfl (av42.l 5 rfl) (zaar zaa2 (qv av42 3 rfl) zaae (fun _ _ => rfl))) (zaad (zaa5 (zaat zacs (zaar zaa2 (zaar zaa4 (qv av42 0 rfl) (qv av42 5 rfl) (fun _ _ => rfl)) zaae (fun _ _ => rfl)) zaae (nomark _)) (zaah (zaas (zabi hu (qv av42 2 rfl) (qv av42 5 rfl) (fun _ _ => rfl)))) zaav) (zac6 (zaa5 (zaku hu (qv av42 5 rfl) (qv av42 4 rfl)) (zaah (zadw hu (qv av42 4 rfl) (qv av42 5 rfl) (zaam D_law_bit hr (gl42.g 0 rfl) pass0 (zaaa (zaar zaa2 (zaar zaa4 (qv av42 0 rfl) (qv av42 5 rfl) (fun _ _ => rfl)) zaae (fun _ _ => rfl)) (zaaa (zaa7 rfl zan4 (zabj (zaar zaa2 (zaar zaa4 (qv av42 0 rfl) (qv av42 5 rfl) (fun _ _ => rfl)) zaae (fun _ _ => rfl))) (fun _ _ _ _ _ => (zaap (i := 0) zan4.nd rfl (Or.inl (zan5.k 0 rfl)) (Or.inr (zan5.k 0 rfl)))) (fun _ _ _ _ _ => zaa9) (fun _ _ _ _ _ => (zaam D_law_had hr (zasr.g 0 rfl) pass0 (zaaa (qw zafx 1 rfl) (zaaa (qw zafx 2 rfl) (zaaa (qw zafx 3 rfl) (zaaa (qw zafx 0 rfl) (zaaa (qw zafx 4 rfl) zaab zaac) zaac) zaac) zaac) zaac) zadq))) zaab zaa0) zaau) zafw) rfl)) zaav) (zaah (zaas (zabi hu (qv av42 4 rfl) (qv av42 5 rfl) (fun _ _ => rfl))))))))), ?_⟩
 (try dsimp only [cxOf])
 have hrl := R.hrl
 have hbl := R.hbl
 have hkd := R.hkd
 have hkn := R.hkn
 obtain ⟨sb, m⟩ := sr
 cases sb with
 | false =>
  have hsp : H sp = some (.tup [.str "in", .int (m : Int)]) := hsp
  have sl : m < ins := sl
  have ea : atI (row.map bV) (m : Int) = some (bV (srcV row v (false, m))) := by
   refine zaec ?_
   have rn := R.rn
   rw [List.getElem?_map, List.getElem?_eq_getElem (show m < row.length by omega)]
   simp [srcV, List.getElem?_eq_getElem (show m < row.length by omega)]
  walk_at "rd"
  exact q kvs H (Ch.refl _ _) hkn R.hkv
 | true =>
  have hsp : H sp = some (.tup [.str "block", .int (m : Int)]) := hsp
  have sl : m < bs.length := sl
  obtain ⟨p, b, e1, e2, ⟨lp, sps, hp, hs, ws⟩⟩ := zaf6 R.hbs m sl
  have okb := R.ok b (List.mem_of_getElem? e2)
  have hs : H lp = some (.lst (sps.map V.ref)) := hs
  rcases zaig R.ok sl with ⟨lo, ml⟩ | kp
  ·have bk : b.kept = 0 := by rw [zadm e2] at lo; simpa using lo
   rw [bk] at hp
   have rlt : rk m < n := hlt rfl ml
   walk_at "rd"
   refine iteF ?_
   walk_at "rd"
   refine zaeu (fun σ H' => σ = [some (.ref bl), some (.ref rl), some (.ref kd), some (.ref sp), some (.ref kn), some (.int (m : Int))] ∧ ∃ kvs', Ch [kn] H H' ∧ H' kn = some (.dK kvs') ∧ KnV bs v kvs' ∧ valV kvs' (.inl (m : Int)) = some (bV (v m))) ?_ ?_
   ·rcases R.hkv.case m with vn | vs
    ·obtain ⟨n', rfl⟩ : ∃ n', n = n' + 1 := ⟨n - 1, by omega⟩
     have ls := Paired.length ws
     rw [List.length_map] at ls
     have s4 := okb.s4
     walk_at "rd"
     refine zab4 (sps.map V.ref) (fun i ys σ H' => ys = ((b.ss.take i).map (srcV row v)).map bV ∧ (∃ kvs', Ch [kn] H H' ∧ H' kn = some (.dK kvs') ∧ KnV bs v kvs') ∧ ∃ u, σ = [u, some (.ref bl), some (.ref rl), some (.ref kd), some (.ref kn)]) (by rw [sizeLine_eq, List.length_map]; omega) ⟨rfl, ⟨kvs, Ch.refl _ _, hkn, R.hkv⟩, _, rfl⟩ ?_ ?_ ?_
     ·rintro i ys σ H' hi ⟨rfl, ⟨kvs', c, hk', kk⟩, _⟩
      refine ⟨?_, SqL.of ((Kp2.of c hkn).l _ _ hs)⟩
      rw [List.length_map, List.length_map, List.length_take]; omega
     ·rintro i ys σ H' z hz ⟨rfl, ⟨kvs', c, hk', kk⟩, u, rfl⟩
      obtain ⟨pl, xx, rfl, g1, ⟨g2, _⟩⟩ := zaba ws i z hz
      rw [List.getElem?_map] at g1
      obtain ⟨sr, es, rfl⟩ := Option.map_eq_some_iff.mp g1
      have ms := List.mem_of_getElem? es
      have et : b.ss.take (i + 1) = b.ss.take i ++ [sr] := by rw [List.take_add_one, es]; rfl
      rw [et, List.map_append, List.map_append]
      have R' := R.next c hk' kk
      have g2' : H' pl = some (.tup (sg sr)) := (Kp2.of c hkn).t _ _ g2
      have so2 := okb.so sr ms
      have lt2 : sr.1 = true → sr.2 ∈ looseOf bs → rk sr.2 < n' := fun h1 h2 => by
       have := hrk m ml sr.2 (by rw [zaem e2]; exact List.mem_map.mpr ⟨sr, List.mem_filter.mpr ⟨ms, by simp [h1, (List.mem_filter.mp h2).2]⟩, rfl⟩)
       omega
      clear hrl hbl hkd hkn R
      walk_at "rd"
      rename_i kvs2 H2 c2 hk2 kk2
      exact ⟨⟨kvs2, c.trans c2, hk2, kk2⟩, _, rfl⟩
     rintro ys σ H' ⟨rfl, ⟨kvs', c, hk', kk⟩, _⟩
     intro D hD
     rw [List.length_map, ← ls, List.take_length]
     have vm : bV (tbit b.bits (b.ss.map (srcV row v))) = bV (v m) := by rw [R.so.l m b e2 bk]; rfl
     have lk := kk.len
     have lb := R.lb
     have zk : kvs'.length < sizeLine := by rw [sizeLine_eq]; omega
     walk_at "rd"
     rw [vm]
     exact kk.put ml
    ·walk_at "rd"
     exact ⟨R.hkv, vs⟩
   ·rintro σ H' ⟨rfl, kvs', c, hk', kk, vm⟩
    walk_at "rd"
    exact q kvs' H' c hk' kk
  ·have bk : b.kept = 1 := by have := (List.mem_filter.mp kp).2; rw [zagg e2] at this; simpa using this
   rw [bk] at hp
   have vk : valV (keptD bs kv) (.inl (m : Int)) = some (bV (kv m)) := zado kp
   have e : bV (kv m) = bV (srcV row v (true, m)) := by rw [← R.so.k m kp]; rfl
   rw [e] at vk
   walk_at "rd"
   exact q kvs H (Ch.refl _ _) hkn R.hkv
theorem zass (hF : ∀ k sp, (FnOk P w K mg base CX0 k f fd ["_law_blocks", "_law_row", "_law_kept", "_law_source", "_law_known"] sp → DefOk P w K mg base CX0 k "_law_had" ["_law_blocks", "_law_row", "_law_kept", "_law_source", "_law_known"] sp)) (F : Fun K "_law_had" "_law_had" (top 42) f fd) (D_law_bit : DefOk P w K mg base CX0 k "_law_bit" ["_law_bits", "_law_feeds"] spLB) (n : Nat) : DefOk P w K mg base CX0 (k + 1 + n) "_law_had" ["_law_blocks", "_law_row", "_law_kept", "_law_source", "_law_known"] (spL n) := by
 induction n with
 | zero => exact hF _ _ (zauv F)
 | succ n ih => exact hF _ _ (zavo n F ih (D_law_bit.mono (show k ≤ k + 1 + n by omega)))
end
end

section
theorem Ch.drop {W : List Addr} {H H' : Hp} {p : Addr} (c : Ch (p :: W) H H') (n : H p = none) : Ch W H H' := fun b u e k => c b u e (by
 intro z
 rcases List.mem_cons.mp z with z | z
 ·rw [z, n] at e; cases e
 ·exact k z)
theorem Kp2.of2 {H H' : Hp} {a b : Addr} {o o' : List (Key × V)} (c : Ch [a, b] H H') (h : H a = some (.dK o)) (h' : H b = some (.dK o')) : Kp2 H H' := by
 have ne : ∀ p u, H p = some u → (∀ o, u ≠ .dK o) → p ∉ [a, b] := fun p u e n z => by
  rcases List.mem_cons.mp z with z | z
  ·rw [z, h] at e; exact n _ (Option.some.inj e).symm
  ·rw [List.mem_singleton.mp z, h'] at e; exact n _ (Option.some.inj e).symm
 exact ⟨fun p xs e => c.get e (ne p _ e (fun _ z => by cases z)), fun p xs e => c.get e (ne p _ e (fun _ z => by cases z))⟩
theorem Rn.next2 {H H' : Hp} {bl rl kd kn ld : Addr} {ins : Nat} {bs : List Bk} {ps : List Addr} {row : List Bool} {kv v : Nat → Bool} {kvs kvs' o : List (Key × V)} (h : Rn H bl rl kd kn ins bs ps row kv v kvs) (c : Ch [kn, ld] H H') (hl : H ld = some (.dK o)) (n : kd ≠ ld) (e : H' kn = some (.dK kvs')) (k : KnV bs v kvs') : Rn H' bl rl kd kn ins bs ps row kv v kvs' :=
 have kp := Kp2.of2 c h.hkn hl
 ⟨kp.l _ _ h.hbl, zaal (fun _ _ e => kp.bk e) h.hbs, h.ok, kp.l _ _ h.hrl, h.rn, (by
  rcases h.hkd with r | ⟨ob, r⟩
  ·exact .inl (c.get r (by have := h.ne; simp [this, n]))
  ·exact .inr ⟨ob, c.get r (by have := h.ne; simp [this, n])⟩), e, h.ne, h.so, k, h.lb⟩
theorem Ch.thawW {W : List Addr} {H H' : Hp} {d : Addr} {ob : Obj} {o : HO} (c : Ch W (upd H d (.frz ob o)) H') (h : H d = some o) : Ch W H (upd H' d o) := fun b u e k => by
 by_cases hb : b = d
 ·subst hb; rw [zaag, ← h, e]
 ·rw [zaaw hb]; exact c b u (by rw [zaaw hb]; exact e) k
theorem zak5 {l : List Nat} (nd : l.Nodup) {i n : Nat} (h : l[i]? = some n) : n ∉ l.take i := fun hm => by
 obtain ⟨j, hj, ej⟩ := List.getElem_of_mem hm
 have hj2 : j < i := by rw [List.length_take] at hj; omega
 have hi2 := (List.getElem?_eq_some_iff.mp h).1
 rw [List.getElem_take] at ej
 have := (List.getElem_inj (h₀ := by omega) (h₁ := hi2) nd (i := j) (j := i)).mp (by rw [ej]; exact (List.getElem?_eq_some_iff.mp h).2.symm)
 omega
structure LwP (H : Hp) (bl ol : Addr) (ins : Nat) (bs : List Bk) (os : List Src) (ps ops : List Addr) : Prop where
 hbl : H bl = some (.lst (ps.map V.ref))
 hbs : Paired (BkAt .list H) bs ps
 hol : H ol = some (.lst (ops.map V.ref))
 hos : Paired (PgAt H) (os.map sg) ops
 ok : ∀ b ∈ bs, b.ok ins bs.length
 oo : ∀ s ∈ os, s.2 < lim ins bs.length s.1
 lb : bs.length ≤ 40
 lo : os.length ≤ 40
section
variable {P : Program} {w : World} {K : PySem.W.Frag} {mg : Str → Option Value} {base : Heap} {f : Addr} {fd : FuncData} {k : Nat}
local macro_rules | `(tactic| walk_at "user") => `(tactic| first
 | (apply zabv; (focus walk_at "get"); (focus with_reducible assumption))
 | (apply zakb; (focus with_reducible assumption); (focus with_reducible assumption))
 | (apply dputI; (focus walk_at "get"); (focus with_reducible assumption)))
theorem av43 : AF (defScope (top 43)) ["_law_blocks", "_law_outs", "_law_row", "_law_kept", "_law_known", "_law_told_here", "_law_later", "_law_k"] := ⟨by decide +kernel⟩
def zag8 : Scope := { kind := PySem.ScopeKind.function, names := [ (PySem.Str.ofString ".0", PySem.NameKind.local), (PySem.Str.ofString "_law_source", PySem.NameKind.local), (PySem.Str.ofString "_law_had", PySem.NameKind.globalImplicit), (PySem.Str.ofString "_law_blocks", PySem.NameKind.free), (PySem.Str.ofString "_law_kept", PySem.NameKind.free), (PySem.Str.ofString "_law_known", PySem.NameKind.free), (PySem.Str.ofString "_law_row", PySem.NameKind.free)], isGenerator := false, isCoroutine := false, more := [] : PySem.Scope }
theorem zan6 : CompOk zag8 (defScope (top 43)) (["_law_source"] : List Str) (["_law_blocks", "_law_outs", "_law_row", "_law_kept", "_law_known", "_law_told_here", "_law_later", "_law_k"] : List Str) [0, 2, 3, 4] (["_law_source", "_law_blocks", "_law_row", "_law_kept", "_law_known"] : List Str) := compOk rfl (by decide +kernel) (by decide +kernel) (by decide +kernel) (by decide +kernel) rfl (by decide +kernel)
theorem zan7 : AK (relab zag8 (defScope (top 43))) ["_law_source"] := ⟨by decide +kernel⟩
theorem zast : AG (relab zag8 (defScope (top 43))) ["_law_had"] := ⟨by decide +kernel⟩
theorem zafy : AV (relab zag8 (defScope (top 43))) ["_law_source", "_law_blocks", "_law_row", "_law_kept", "_law_known"] := ⟨by decide +kernel⟩
theorem gl43 : AG (defScope (top 43)) ["_law_bit"] := ⟨by decide +kernel⟩
def zag9 : Scope := { kind := PySem.ScopeKind.function, names := [ (PySem.Str.ofString ".0", PySem.NameKind.local), (PySem.Str.ofString "_law_one", PySem.NameKind.local), (PySem.Str.ofString "_law_had", PySem.NameKind.globalImplicit), (PySem.Str.ofString "_law_blocks", PySem.NameKind.free), (PySem.Str.ofString "_law_kept", PySem.NameKind.free), (PySem.Str.ofString "_law_known", PySem.NameKind.free), (PySem.Str.ofString "_law_row", PySem.NameKind.free)], isGenerator := false, isCoroutine := false, more := [] : PySem.Scope }
theorem zan8 : CompOk zag9 (defScope (top 43)) (["_law_one"] : List Str) (["_law_blocks", "_law_outs", "_law_row", "_law_kept", "_law_known", "_law_told_here", "_law_later", "_law_k"] : List Str) [0, 2, 3, 4] (["_law_one", "_law_blocks", "_law_row", "_law_kept", "_law_known"] : List Str) := compOk rfl (by decide +kernel) (by decide +kernel) (by decide +kernel) (by decide +kernel) rfl (by decide +kernel)
theorem zan9 : AK (relab zag9 (defScope (top 43))) ["_law_one"] := ⟨by decide +kernel⟩
theorem zasu : AG (relab zag9 (defScope (top 43))) ["_law_had"] := ⟨by decide +kernel⟩
theorem zafz : AV (relab zag9 (defScope (top 43))) ["_law_one", "_law_blocks", "_law_row", "_law_kept", "_law_known"] := ⟨by decide +kernel⟩
def spLT : Sp := fun vs H Q _ => ∃ (bl ol rl kd : Addr) (ins : Nat) (bs : List Bk) (os : List Src) (ps ops : List Addr) (row : List Bool) (kv v : Nat → Bool) (rk : Nat → Nat), vs = [.ref bl, .ref ol, .ref rl, .ref kd] ∧ LwP H bl ol ins bs os ps ops ∧ H rl = some (.lst (row.map bV)) ∧ row.length = ins ∧ H kd = some (.dK (keptD bs kv)) ∧ Sol bs row kv v ∧ Rk bs rk ∧ (∀ n ∈ looseOf bs, rk n < 40) ∧
 ∀ t H', Ch [kd] H H' → H t = none → H' t = some (.lst ((os.map (srcV row v)).map bV)) → H' kd = some (.dK (keptD bs (nxV bs row v))) → Q (.ref t) H'
theorem scLT : FnScope ["_law_blocks", "_law_outs", "_law_row", "_law_kept", "_law_known", "_law_told_here", "_law_later", "_law_k"] ["_law_blocks", "_law_outs", "_law_row", "_law_kept"] (defScope (top 43)) := ⟨rfl, rfl, rfl, by decide +kernel, rfl, by decide +kernel, by decide +kernel⟩
theorem zavp (F : Fun K "_law_beat" "_law_beat" (top 43) f fd) (D_law_had : DefOk P w K mg base CX0 k "_law_had" ["_law_blocks", "_law_row", "_law_kept", "_law_source", "_law_known"] (spLH 40)) (D_law_bit : DefOk P w K mg base CX0 k "_law_bit" ["_law_bits", "_law_feeds"] spLB) : FnOk P w K mg base CX0 (k + 1) f fd ["_law_blocks", "_law_outs", "_law_row", "_law_kept"] spLT := by
 have nd := scLT.nd
 refine F.ok scLT (fun vs H Q E h => by obtain ⟨bl, ol, rl, kd, ins, bs, os, ps, ops, row, kv, v, rk, rfl, _⟩ := h; rfl) (fun cdv A outer s H vs Q E hr h => ?_)
 obtain ⟨bl, ol, rl, kd, ins, bs, os, ps, ops, row, kv, v, rk, rfl, L, hrl, hrn, hkd, so, hrk, h40, q⟩ := h
 have hu := zagk hr
 refine ⟨_, (Pr.h (zaad (zaax (i := 4) nd rfl (av43.l 4 rfl) zah5) (zaad (zadi (i := 5) nd rfl (av43.l 5 rfl) rfl zan6 (zabj (qv av43 1 rfl)) (fun _ _ _ _ _ => (zaap (i := 0) zan6.nd rfl (Or.inl (zan7.k 0 rfl)) (Or.inr (zan7.k 0 rfl)))) (fun _ _ _ _ _ => zaa9) (fun _ _ _ _ _ => (zaam D_law_had hr (zast.g 0 rfl) pass0 (zaaa (qw zafy 1 rfl) (zaaa (qw zafy 2 rfl) (zaaa (qw zafy 3 rfl) (zaaa (qw zafy 0 rfl) (zaaa (qw zafy 4 rfl) zaab zaac) zaac) zaac) zaac) zaac) zadq)) rfl) (zaad (zaax (i := 6) nd rfl (av43.l 6 rfl) zah5) (zaad (zaj4 (zabp PassesOwn.never rfl (zags (qv av43 3 rfl)) (zaap (i := 7) nd rfl (av43.l 7 rfl)) (zaah (zadw hu (qv av43 6 rfl) (qv av43 7 rfl) (zaam D_law_bit hr (gl43.g 0 rfl) pass0 (zaaa (zaar zaa2 (zaar zaa4 (qv av43 0 rfl) (qv av43 7 rfl) (fun _ _ => rfl)) zaae (fun _ _ => rfl)) (zaaa (zaa7 rfl zan8 (zabj (zaar zaa2 (zaar zaa4 (qv av43 0 rfl) (qv av43 7 rfl) (fun _ _ => rfl)) zaae (fun _ _ => rfl))) (fun _ _ _ _ _ => (zaap (i := 0) zan8.nd rfl (Or.inl (zan9.k 0 rfl)) (Or.inr (zan9.k 0 rfl)))) (fun _ _ _ _ _ => zaa9) (fun _ _ _ _ _ => (zaam D_law_had hr (zasu.g 0 rfl) pass0 (zaaa (qw zafz 1 rfl) (zaaa (qw zafz 2 rfl) (zaaa (qw zafz 3 rfl) (zaaa (qw zafz 0 rfl) (zaaa (qw zafz 4 rfl) zaab zaac) zaac) zaac) zaac) zaac) zadq))) zaab zaa0) zaau) zafw) rfl)))) (zaad (zaj4 (zabp PassesOwn.never rfl (zags (qv av43 6 rfl)) (zaap (i := 7) nd rfl (av43.l 7 rfl)) (zaah (zadw hu (qv av43 3 rfl) (qv av43 7 rfl) (zabi hu (qv av43 6 rfl) (qv av43 7 rfl) (fun _ _ => rfl)) rfl)))) (zaah (zaas (qv av43 5 rfl))))))))), ?_⟩
 (try dsimp only [cxOf])
 walk_at "rd"
 rename_i kn hkn0
 have c1 : Ch [] H (upd H kn (.dK [])) := Ch.new hkn0 _
 have R1 : Rn (upd H kn (.dK [])) bl rl kd kn ins bs ps row kv v [] := ⟨zabq hkn0 L.hbl, zaal (fun _ _ e => BgAt.ch c1 e) L.hbs, L.ok, zabq hkn0 hrl, hrn, .inl (zabq hkn0 hkd), zaag, zaao hkd hkn0, so, ⟨[], rfl, .nil, by simp⟩, L.lb⟩
 have kd1 : (upd H kn (.dK [])) kd = some (.dK (keptD bs kv)) := zabq hkn0 hkd
 have hol1 : (upd H kn (.dK [])) ol = some (.lst (ops.map V.ref)) := zabq hkn0 L.hol
 have os1 : Paired (PgAt (upd H kn (.dK []))) (os.map sg) ops := zaal (fun _ _ e => PgAt.tu (Tu.same c1) e) L.hos
 generalize upd H kn (.dK []) = H1 at c1 R1 hol1 os1 kd1 ⊢
 have lops := Paired.length os1
 rw [List.length_map] at lops
 have lo40 := L.lo
 have lb40 := L.lb
 refine ⟨⟨_, SqL.of hol1⟩, ?_⟩
 refine zab4 (ops.map V.ref) (fun i ys σ H' => ys = ((os.take i).map (srcV row v)).map bV ∧ (∃ kvs', Ch [kn] H1 H' ∧ H' kn = some (.dK kvs') ∧ KnV bs v kvs') ∧ ∃ u, σ = [u, some (.ref bl), some (.ref rl), some (.ref kd), some (.ref kn)]) (by rw [sizeLine_eq, List.length_map]; omega) ⟨rfl, ⟨[], Ch.refl _ _, R1.hkn, R1.hkv⟩, _, rfl⟩ ?_ ?_ ?_
 ·rintro i ys σ H' hi ⟨rfl, ⟨kvs', c, hk', kk⟩, _⟩
  refine ⟨?_, SqL.of ((Kp2.of c R1.hkn).l _ _ hol1)⟩
  rw [List.length_map, List.length_map, List.length_take]; omega
 ·rintro i ys σ H' z hz ⟨rfl, ⟨kvs', c, hk', kk⟩, u, rfl⟩
  obtain ⟨pl, xx, rfl, g1, ⟨g2, _⟩⟩ := zaba os1 i z hz
  rw [List.getElem?_map] at g1
  obtain ⟨sr, es, rfl⟩ := Option.map_eq_some_iff.mp g1
  have ms := List.mem_of_getElem? es
  have et : os.take (i + 1) = os.take i ++ [sr] := by rw [List.take_add_one, es]; rfl
  rw [et, List.map_append, List.map_append]
  have R' := R1.next c hk' kk
  have g2' : H' pl = some (.tup (sg sr)) := (Kp2.of c R1.hkn).t _ _ g2
  have so2 := L.oo sr ms
  have lt2 : sr.1 = true → sr.2 ∈ looseOf bs → rk sr.2 < 40 := fun _ h2 => h40 _ h2
  walk_at "rd"
  rename_i kvs2 H2 c2 hk2 kk2
  exact ⟨⟨kvs2, c.trans c2, hk2, kk2⟩, _, rfl⟩
 rintro ys σ H2 ⟨rfl, ⟨kvs2, c2, hk2, kk2⟩, _⟩
 rw [List.length_map, ← lops, List.take_length]
 intro t ht
 have R2 := R1.next c2 hk2 kk2
 have kd2 := c2.get kd1 (by have := R1.ne; simpa using this)
 have c02 : Ch [] H H2 := Ch.drop (c1.wk.trans c2) hkn0
 have c03 : Ch [] H (upd H2 t (.lst ((os.map (srcV row v)).map bV))) := c02.trans (Ch.new ht _)
 have t0 : H t = none := chFree c02 ht
 walk_at "rd"
 rename_i ld hld ob
 have c24 : Ch [] H2 (upd (upd H2 t (.lst ((os.map (srcV row v)).map bV))) ld (.dK [])) := (Ch.new ht _).trans (Ch.new hld _)
 have c04 : Ch [] H (upd (upd H2 t (.lst ((os.map (srcV row v)).map bV))) ld (.dK [])) := c03.trans (Ch.new hld _)
 have R4 := R2.next c24.wk (c24.get hk2 (by simp)) kk2
 have kd4 := c24.get kd2 (by simp)
 have ld4 : (upd (upd H2 t (.lst ((os.map (srcV row v)).map bV))) ld (.dK [])) ld = some (.dK []) := zaag
 have t4 : (upd (upd H2 t (.lst ((os.map (srcV row v)).map bV))) ld (.dK [])) t = some (.lst ((os.map (srcV row v)).map bV)) := zabq hld zaag
 have ld0 : H ld = none := chFree c03 hld
 have nkl : kd ≠ ld := zaao hkd ld0
 have nnl : kn ≠ ld := zaao (zabq ht hk2) hld
 generalize upd (upd H2 t (.lst ((os.map (srcV row v)).map bV))) ld (.dK []) = H4 at c24 c04 R4 kd4 ld4 t4 ⊢
 clear c24 c03 c02 R2 kd2 ht hld hk2 c2 R1 kd1 hol1 os1 c1
 have kpF : Kp2 H4 (upd H4 kd (.frz ob (.dK (keptD bs kv)))) := Kp2.of Ch.put kd4
 have RF : Rn (upd H4 kd (.frz ob (.dK (keptD bs kv)))) bl rl kd kn ins bs ps row kv v kvs2 := ⟨kpF.l _ _ R4.hbl, zaal (fun _ _ e => kpF.bk e) R4.hbs, R4.ok, kpF.l _ _ R4.hrl, R4.rn, .inr ⟨ob, zaag⟩, zabg R4.ne.symm R4.hkn, R4.ne, so, kk2, R4.lb⟩
 have kdF : (upd H4 kd (.frz ob (.dK (keptD bs kv)))) kd = some (.frz ob (.dK (keptD bs kv))) := zaag
 have ldF : (upd H4 kd (.frz ob (.dK (keptD bs kv)))) ld = some (.dK []) := zabg nkl.symm ld4
 have tF := kpF.l _ _ t4
 have thw : ∀ H', Ch [kn, ld] (upd H4 kd (.frz ob (.dK (keptD bs kv)))) H' → Ch [kn, ld] H4 (upd H' kd (.dK (keptD bs kv))) := fun H' c => Ch.thawW c kd4
 generalize upd H4 kd (.frz ob (.dK (keptD bs kv))) = HF at RF kdF ldF tF thw ⊢
 clear kpF
 have nkn := R4.ne
 have kD : (keptD bs kv).length = (keptOf bs).length := by unfold keptD wD; rw [List.length_map]
 have kl := zad2 bs
 have hkF := RF.hkn
 refine zah6 (fun i σ H' => (∃ kvs', Ch [kn, ld] HF H' ∧ H' kn = some (.dK kvs') ∧ KnV bs v kvs' ∧ H' ld = some (.dK (wD ((keptOf bs).take i) fun n => bV (nxV bs row v n)))) ∧ ∃ u, σ = [some (.ref bl), some (.ref ol), some (.ref rl), some (.ref kd), some (.ref kn), some (.ref t), some (.ref ld), u]) ⟨⟨kvs2, Ch.refl _ _, hkF, kk2, ldF⟩, _, rfl⟩ ?_ ?_ ?_
 ·rintro i σ H' hi ⟨⟨kvs', c, _⟩, _⟩
  exact c.get kdF (by simp [nkn, nkl])
 ·rintro i kv' σ H' hkv ⟨⟨kvs', c, hk', kk, hl'⟩, u, rfl⟩
  unfold keptD wD at hkv
  rw [List.getElem?_map] at hkv
  obtain ⟨n, hn, rfl⟩ := Option.map_eq_some_iff.mp hkv
  have hn2 := zag6 (List.mem_of_getElem? hn)
  have R' := RF.next2 c ldF nkl hk' kk
  obtain ⟨p, b, e1, e2, ⟨lp, sps, hp, hs, ws⟩⟩ := zaf6 R'.hbs n hn2
  have okb := L.ok b (List.mem_of_getElem? e2)
  have hs : H' lp = some (.lst (sps.map V.ref)) := hs
  have hbl' := R'.hbl
  have ls := Paired.length ws
  rw [List.length_map] at ls
  have s4 := okb.s4
  dsimp only [kV]
  walk_at "rd"
  refine zab4 (sps.map V.ref) (fun j ys σ H'' => ys = ((b.ss.take j).map (srcV row v)).map bV ∧ (∃ kvs'', Ch [kn] H' H'' ∧ H'' kn = some (.dK kvs'') ∧ KnV bs v kvs'') ∧ ∃ u, σ = [u, some (.ref bl), some (.ref rl), some (.ref kd), some (.ref kn)]) (by rw [sizeLine_eq, List.length_map]; omega) ⟨rfl, ⟨kvs', Ch.refl _ _, hk', kk⟩, _, rfl⟩ ?_ ?_ ?_
  ·rintro j ys σ H'' hi ⟨rfl, ⟨kvs'', c', hk'', kk'⟩, _⟩
   refine ⟨?_, SqL.of ((Kp2.of c' hk').l _ _ hs)⟩
   rw [List.length_map, List.length_map, List.length_take]; omega
  ·rintro j ys σ H'' z hz ⟨rfl, ⟨kvs'', c', hk'', kk'⟩, u, rfl⟩
   obtain ⟨pl, xx, rfl, g1, ⟨g2, _⟩⟩ := zaba ws j z hz
   rw [List.getElem?_map] at g1
   obtain ⟨sr, es, rfl⟩ := Option.map_eq_some_iff.mp g1
   have ms := List.mem_of_getElem? es
   have et : b.ss.take (j + 1) = b.ss.take j ++ [sr] := by rw [List.take_add_one, es]; rfl
   rw [et, List.map_append, List.map_append]
   have R'' := R'.next c' hk'' kk'
   have g2' : H'' pl = some (.tup (sg sr)) := (Kp2.of c' hk').t _ _ g2
   have so2 := okb.so sr ms
   have lt2 : sr.1 = true → sr.2 ∈ looseOf bs → rk sr.2 < 40 := fun _ h2 => h40 _ h2
   clear hbl' R'
   walk_at "rd"
   rename_i kvs3 H3 c3 hk3 kk3
   exact ⟨⟨kvs3, c'.trans c3, hk3, kk3⟩, _, rfl⟩
  rintro ys σ H5 ⟨rfl, ⟨kvs5, c5, hk5, kk5⟩, _⟩
  intro D hD
  rw [List.length_map, ← ls, List.take_length]
  have nx := zaqy (row := row) (v := v) e2
  have l5 : H5 ld = some (.dK (wD ((keptOf bs).take i) fun n => bV (nxV bs row v n))) := c5.get hl' (by simpa using nnl.symm)
  have zk : (wD ((keptOf bs).take i) fun n => bV (nxV bs row v n)).length < sizeLine := by
   unfold wD
   rw [List.length_map, List.length_take, sizeLine_eq]
   omega
  have sn := zaji (g := fun n => bV (nxV bs row v n)) (zak5 (zadk bs) hn)
  have et : (keptOf bs).take (i + 1) = (keptOf bs).take i ++ [n] := by rw [List.take_add_one, hn]; rfl
  walk_at "rd"
  rename_i H6 c6
  have ev : bV (tbit b.bits (b.ss.map (srcV row v))) = bV (nxV bs row v n) := by rw [nx]; rfl
  rw [ev, sn, ← et]
  have c56 : Ch [] H5 H6 := (Ch.new hD _).trans c6
  exact ⟨⟨kvs5, ((c.trans (c5.mono (fun b h => by simp at h; simp [h]))).trans c56.wk).trans (Ch.put.mono (fun b h => by simp at h; simp [h])), zabg nnl (c56.get hk5 (by simp)), kk5, zaag⟩, _, rfl⟩
 ·rintro σ H' ⟨⟨kvs', c, hk', kk, hl'⟩, u, rfl⟩
  rw [kD, List.take_length] at hl'
  have kf' := c.get kdF (by simp [nkn, nkl])
  refine ⟨kd, ob, keptD bs kv, kf', (fun b u z => by have z : H kd = some (.frz b u) := z; rw [hkd] at z; cases z), ?_⟩
  have c5 := thw _ c
  have kd5 : (upd H' kd (.dK (keptD bs kv))) kd = some (.dK (keptD bs kv)) := zaag
  have ld5 : (upd H' kd (.dK (keptD bs kv))) ld = some (.dK (keptD bs (nxV bs row v))) := zabg nkl.symm hl'
  have t5 : (upd H' kd (.dK (keptD bs kv))) t = some (.lst ((os.map (srcV row v)).map bV)) := zabg (zabl tF kdF (by intro z; cases z)) ((Kp2.of2 c RF.hkn ldF).l _ _ tF)
  generalize upd H' kd (.dK (keptD bs kv)) = H5 at c5 kd5 ld5 t5 ⊢
  have c05 : Ch [] H H5 := Ch.drop (Ch.drop (c04.wk.trans c5) hkn0) ld0
  clear c kf' thw kdF ldF tF RF hkF hl' hk' kk R4 kd4 ld4 t4 c5 c04
  walk_at "rd"
  rename_i ob2
  have kdG : (upd H5 ld (.frz ob2 (.dK (keptD bs (nxV bs row v))))) kd = some (.dK (keptD bs kv)) := zabg nkl kd5
  have ldG : (upd H5 ld (.frz ob2 (.dK (keptD bs (nxV bs row v))))) ld = some (.frz ob2 (.dK (keptD bs (nxV bs row v)))) := zaag
  have tG : (upd H5 ld (.frz ob2 (.dK (keptD bs (nxV bs row v))))) t = some (.lst ((os.map (srcV row v)).map bV)) := zabg (zabl t5 ld5 (by intro z; cases z)) t5
  have thw : ∀ H', Ch [kd] (upd H5 ld (.frz ob2 (.dK (keptD bs (nxV bs row v))))) H' → Ch [kd] H5 (upd H' ld (.dK (keptD bs (nxV bs row v)))) := fun H' c => Ch.thawW c ld5
  generalize upd H5 ld (.frz ob2 (.dK (keptD bs (nxV bs row v)))) = HG at kdG ldG tG thw ⊢
  have kD2 : (keptD bs (nxV bs row v)).length = (keptOf bs).length := by unfold keptD wD; rw [List.length_map]
  refine zah6 (fun i σ H' => (Ch [kd] HG H' ∧ H' kd = some (.dK (wD (keptOf bs) fun n => bV (if n ∈ (keptOf bs).take i then nxV bs row v n else kv n)))) ∧ ∃ u, σ = [some (.ref bl), some (.ref ol), some (.ref rl), some (.ref kd), some (.ref kn), some (.ref t), some (.ref ld), u]) ⟨⟨Ch.refl _ _, by rw [kdG]; simp⟩, _, rfl⟩ ?_ ?_ ?_
  ·rintro i σ H' hi ⟨⟨c, _⟩, _⟩
   exact c.get ldG (by simpa using nkl.symm)
  ·rintro i kv' σ H' hkv ⟨⟨c, hk'⟩, u, rfl⟩
   unfold keptD wD at hkv
   rw [List.getElem?_map] at hkv
   obtain ⟨n, hn, rfl⟩ := Option.map_eq_some_iff.mp hkv
   have mn := List.mem_of_getElem? hn
   have rd : Rd H' ld (.dK (keptD bs (nxV bs row v))) := .inr ⟨ob2, c.get ldG (by simpa using nkl.symm)⟩
   have vn : valV (keptD bs (nxV bs row v)) (.inl (n : Int)) = some (bV (nxV bs row v n)) := zado mn
   have zk : (wD (keptOf bs) fun n => bV (if n ∈ (keptOf bs).take i then nxV bs row v n else kv n)).length < sizeLine := by
    unfold wD
    rw [List.length_map, sizeLine_eq]
    omega
   have et : (keptOf bs).take (i + 1) = (keptOf bs).take i ++ [n] := by rw [List.take_add_one, hn]; rfl
   have pn : putK (wD (keptOf bs) fun n => bV (if n ∈ (keptOf bs).take i then nxV bs row v n else kv n)) (.inl (n : Int)) (bV (nxV bs row v n)) = wD (keptOf bs) fun n => bV (if n ∈ (keptOf bs).take (i + 1) then nxV bs row v n else kv n) := by
    rw [zam9 _ mn]
    refine zadx fun m _ => ?_
    by_cases hm : m = n
    ·subst hm; simp [et]
    ·simp [et, hm]
   dsimp only [kV]
   walk_at "rd"
   rw [pn]
   exact ⟨⟨c.trans Ch.put, zaag⟩, _, rfl⟩
  ·rintro σ H' ⟨⟨c, hk'⟩, u, rfl⟩
   rw [kD2, List.take_length] at hk'
   refine ⟨ld, ob2, keptD bs (nxV bs row v), c.get ldG (by simpa using nkl.symm), (fun b u z => by have z : H ld = some (.frz b u) := z; rw [ld0] at z; cases z), ?_⟩
   walk_at "rd"
   refine q t _ (c05.wk.trans (thw _ c)) t0 (zabg (zabl tG ldG (by intro z; cases z)) (c.get tG (by have := zabl tG kdG (by intro z; cases z); simpa using this))) (zabg nkl ?_)
   rw [hk', zadx (g' := fun n => bV (nxV bs row v n)) (fun m hm => by simp [hm])]
end
end

section
def evV (bs : List Bk) (row : List Bool) (kv : Nat → Bool) : Nat → Nat → Bool
 | 0, n => kv n
 | f + 1, n => match bs[n]? with
  | some b => if b.kept = 0 then bkV row (evV bs row kv f) b else kv n
  | none => false
theorem zad7 {bs : List Bk} {row : List Bool} {kv : Nat → Bool} {n : Nat} (h : n ∈ keptOf bs) (f : Nat) : evV bs row kv f n = kv n := by
 cases f with
 | zero => rfl
 | succ f =>
  have e := List.getElem?_eq_getElem (zag6 h)
  have k := (List.mem_filter.mp h).2
  rw [zagg e] at k
  have k : (bs[n]'(zag6 h)).kept = 1 := by simpa using k
  simp only [evV, e]
  rw [if_neg (by rw [k]; decide)]
theorem zaij {row : List Bool} {v v' : Nat → Bool} {b : Bk} (h : ∀ s ∈ b.ss, s.1 = true → v s.2 = v' s.2) : bkV row v b = bkV row v' b := by
 unfold bkV
 rw [List.map_congr_left fun s hs => ?_]
 unfold srcV
 cases e : s.1 with
 | true => simp [h s hs e]
 | false => simp
theorem zagh {ins : Nat} {bs : List Bk} {row : List Bool} {kv : Nat → Bool} (ok : ∀ b ∈ bs, b.ok ins bs.length) {r : Nat → Nat} (hr : ∀ n ∈ looseOf bs, ∀ s ∈ lsOf bs n, s ∈ looseOf bs ∧ r s < r n) : ∀ (f g n : Nat), n ∈ looseOf bs → r n < f → r n < g → evV bs row kv f n = evV bs row kv g n
 | 0, _, _, _, h, _ => by omega
 | _, 0, _, _, _, h => by omega
 | f + 1, g + 1, n, hn, h1, h2 => by
  have e := List.getElem?_eq_getElem (zady hn)
  have k := (List.mem_filter.mp hn).2
  rw [zadm e] at k
  have k : (bs[n]'(zady hn)).kept = 0 := by simpa using k
  simp only [evV, e]
  rw [if_pos k, if_pos k]
  refine zaij fun s hs ht => ?_
  have so := (ok _ (List.mem_of_getElem? e)).so s hs
  rw [ht] at so
  rcases zaig ok (show s.2 < bs.length from so) with ⟨z, zl⟩ | z
  ·have m : s.2 ∈ lsOf bs n := by rw [zaem e]; exact List.mem_map.mpr ⟨s, List.mem_filter.mpr ⟨hs, by simp [ht, z]⟩, rfl⟩
   have := (hr n hn s.2 m).2
   exact zagh ok hr f g s.2 zl (by omega) (by omega)
  ·rw [zad7 z, zad7 z]
theorem zauw {ins : Nat} {bs : List Bk} (ok : ∀ b ∈ bs, b.ok ins bs.length) (ac : Acy (looseOf bs) (lsOf bs)) (row : List Bool) (kv : Nat → Bool) : ∃ v, Sol bs row kv v := by
 obtain ⟨r, hr⟩ := ac
 refine ⟨fun n => evV bs row kv (r n + 1) n, fun n hn => zad7 hn _, fun n b e k => ?_⟩
 have hn : n ∈ looseOf bs := List.mem_filter.mpr ⟨List.mem_range.mpr (List.getElem?_eq_some_iff.mp e).1, by rw [zadm e, k]; rfl⟩
 have u : evV bs row kv (r n + 1) n = bkV row (evV bs row kv (r n)) b := by
  simp only [evV, e]
  rw [if_pos k]
 refine u.trans ?_
 refine zaij fun s hs ht => ?_
 have so := (ok _ (List.mem_of_getElem? e)).so s hs
 rw [ht] at so
 rcases zaig ok (show s.2 < bs.length from so) with ⟨z, zl⟩ | z
 ·have m : s.2 ∈ lsOf bs n := by rw [zaem e]; exact List.mem_map.mpr ⟨s, List.mem_filter.mpr ⟨hs, by simp [ht, z]⟩, rfl⟩
  exact zagh ok hr (r n) (r s.2 + 1) s.2 zl (hr n hn s.2 m).2 (by omega)
 ·exact (zad7 z (r n)).trans (zad7 z (r s.2 + 1)).symm
theorem zavq {bs : List Bk} {order : List Nat} (kh : Kahn (looseOf bs) (lsOf bs) order []) (al : ∀ n ∈ looseOf bs, n ∈ order) (lb : bs.length < 40) : Rk bs (fun n => order.idxOf n) ∧ ∀ n ∈ looseOf bs, order.idxOf n < 40 := by
 have lo := kh.le
 have l2 := List.length_filter_le (loB bs) (List.range bs.length)
 rw [List.length_range] at l2
 have l3 : (looseOf bs).length ≤ bs.length := l2
 refine ⟨fun n hn s hs => ?_, fun n hn => ?_⟩
 ·have m := al n hn
  have e : order[order.idxOf n]? = some n := by rw [List.getElem?_eq_getElem (List.idxOf_lt_length_of_mem m), List.getElem_idxOf]
  have t := kh.tp _ n e s hs
  show order.idxOf s < order.idxOf n
  have h1 : order.idxOf s = (order.take (order.idxOf n)).idxOf s := by
   have := List.idxOf_append (l₁ := order.take (order.idxOf n)) (l₂ := order.drop (order.idxOf n)) (a := s)
   rw [List.take_append_drop, if_pos t] at this
   exact this
  rw [h1]
  have h2 := List.idxOf_lt_length_of_mem t
  rw [List.length_take] at h2
  omega
 ·have := List.idxOf_lt_length_of_mem (al n hn)
  omega
end

section
section
variable {P : Program} {w : World} {K : PySem.W.Frag} {mg : Str → Option Value} {base : Heap} {f : Addr} {fd : FuncData} {k : Nat}
theorem zacf : Nd "_law_same" := by decide +kernel
theorem av39 : AF (defScope (top 39)) ["_law_found", "_law_due"] := ⟨by decide +kernel⟩
theorem gl39 : AG (defScope (top 39)) ["isinstance", "dict", "len", "all", "tuple", "list", "zip", "str", "bool", "int"] := ⟨by decide +kernel⟩
def zaha : Scope := { kind := PySem.ScopeKind.function, names := [ (PySem.Str.ofString ".0", PySem.NameKind.local), (PySem.Str.ofString "_law_name", PySem.NameKind.local), (PySem.Str.ofString "_law_same", PySem.NameKind.globalImplicit), (PySem.Str.ofString "_law_due", PySem.NameKind.free), (PySem.Str.ofString "_law_found", PySem.NameKind.free)], isGenerator := false, isCoroutine := false, more := [] : PySem.Scope }
theorem zahb : CompOk zaha (defScope (top 39)) (["_law_name"] : List Str) (["_law_found", "_law_due"] : List Str) [0, 1] (["_law_name", "_law_found", "_law_due"] : List Str) := compOk rfl (by decide +kernel) (by decide +kernel) (by decide +kernel) (by decide +kernel) rfl (by decide +kernel)
theorem zahc : AK (relab zaha (defScope (top 39))) ["_law_name"] := ⟨by decide +kernel⟩
theorem zaoa : AG (relab zaha (defScope (top 39))) ["_law_same"] := ⟨by decide +kernel⟩
theorem zaci : AV (relab zaha (defScope (top 39))) ["_law_name", "_law_found", "_law_due"] := ⟨by decide +kernel⟩
def zahd : Scope := { kind := PySem.ScopeKind.function, names := [ (PySem.Str.ofString ".0", PySem.NameKind.local), (PySem.Str.ofString "_law_one", PySem.NameKind.local), (PySem.Str.ofString "_law_other", PySem.NameKind.local), (PySem.Str.ofString "_law_same", PySem.NameKind.globalImplicit)], isGenerator := false, isCoroutine := false, more := [] : PySem.Scope }
theorem zaeo : CompOk zahd (defScope (top 39)) (["_law_one", "_law_other"] : List Str) (["_law_found", "_law_due"] : List Str) [] (["_law_one", "_law_other"] : List Str) := compOk rfl (by decide +kernel) (by decide +kernel) (by decide +kernel) (by decide +kernel) rfl (by decide +kernel)
theorem zadf : AK (relab zahd (defScope (top 39))) ["_law_one", "_law_other"] := ⟨by decide +kernel⟩
theorem zaob : AG (relab zahd (defScope (top 39))) ["_law_same"] := ⟨by decide +kernel⟩
theorem zahe : AV (relab zahd (defScope (top 39))) ["_law_one", "_law_other"] := ⟨by decide +kernel⟩
def spSame : Nat → Sp
 | 0 => fun vs H Q _ => ∃ b : Bool, vs = [bV b, bV b] ∧ ∀ H', Ch [] H H' → Q (.bl true) H'
 | n + 1 => fun vs H Q _ => ∃ (p r : Addr) (bs : List Bool), vs = [.ref p, .ref r] ∧ H p = some (.lst (bs.map bV)) ∧ H r = some (.lst (bs.map bV)) ∧ bs.length ≤ 1000 ∧ ∀ H', Ch [] H H' → Q (.bl true) H'
def spF : Sp := fun _ _ _ _ => False
theorem scSame : FnScope ["_law_found", "_law_due"] ["_law_found", "_law_due"] (defScope (top 39)) := ⟨rfl, rfl, rfl, by decide +kernel, rfl, by decide +kernel, by decide +kernel⟩
theorem zaqa (F : Fun K "_law_same" "_law_same" (top 39) f fd) (D_law_same : DefOk P w K mg base CX0 k "_law_same" ["_law_found", "_law_due"] spF) (z_isinstance : mg "isinstance" = none) (z_dict : mg "dict" = none) (z_list : mg "list" = none) (z_tuple : mg "tuple" = none) (z_str : mg "str" = none) (z_int : mg "int" = none) (z_bool : mg "bool" = none) (z_len : mg "len" = none) (z_all : mg "all" = none) (z_zip : mg "zip" = none) :
  FnOk P w K mg base CX0 (k + 1) f fd ["_law_found", "_law_due"] (spSame 0) := by
 have nd := scSame.nd
 refine F.ok scSame (fun vs H Q E h => by obtain ⟨b, rfl, _⟩ := h; rfl) (fun cdv A outer s H vs Q E hr h => ?_)
 obtain ⟨b, rfl, q⟩ := h
 refine ⟨_, (Pr.h (zaad (zaa5 (zaat zajr (qv av39 1 rfl) zadc (nomark _)) (zaah (zaas (zabt zajr (qv av39 0 rfl) zadc (nomark _)))) zaav) (zaad (zaa5 (zaa6 (zaaf zaa1 (gl39.g 0 rfl) z_isinstance zaai (zaaa (qv av39 1 rfl) (zaaa (zaay (v := .ty "dict") (gl39.g 1 rfl) z_dict zacx rfl zacy zacz) zaab)) zaaj zaak)) (zaad (zaa5 (zab7 (zab8 (zabn (zaa6 (zaaf zaa1 (gl39.g 0 rfl) z_isinstance zaai (zaaa (qv av39 0 rfl) (zaaa (zaay (v := .ty "dict") (gl39.g 1 rfl) z_dict zacx rfl zacy zacz) zaab)) zaaj zaak))) (zab3 (zaat zadr (zaaf zaan (gl39.g 2 rfl) z_len PySem.boot_len (zaaa (qv av39 0 rfl) zaab zaac) zabc zabd) (zaaf zaan (gl39.g 2 rfl) z_len PySem.boot_len (zaaa (qv av39 1 rfl) zaab zaac) zabc zabd) (nomark _))))) (zaah (zaas zac0)) zaav) (zaah (zaas (zaaf (zac9 rfl) (gl39.g 3 rfl) z_all zafj (zaaa (zaa7 rfl zahb (zabj (qv av39 1 rfl)) (fun _ _ _ _ _ => (zaap (i := 0) zahb.nd rfl (Or.inl (zahc.k 0 rfl)) (Or.inr (zahc.k 0 rfl)))) (fun _ _ _ _ _ => zaa9) (fun _ _ _ _ _ => (zab2 (zabt (zage K rfl) (qw zaci 0 rfl) (qw zaci 1 rfl) rfl) (zacg (zaam D_law_same hr (zaoa.g 0 rfl) pass0 (zaaa (zaar (zacn K rfl) (qw zaci 1 rfl) (qw zaci 0 rfl) (fun _ _ => rfl)) (zaaa (zaar (zacn K rfl) (qw zaci 2 rfl) (qw zaci 0 rfl) (fun _ _ => rfl)) zaab zaau) zaau) zacf))))) zaab zaa0) zafl zafm)))) zaav) (zaad (zaa5 (zab7 (zab8 (zaa6 (zaaf zaa1 (gl39.g 0 rfl) z_isinstance zaai (zaaa (qv av39 1 rfl) (zaaa (zaay (v := .ty "list") (gl39.g 5 rfl) z_list zacu rfl zacv zacw) zaab)) zaaj zaak)) (zab3 (zaa6 (zaaf zaa1 (gl39.g 0 rfl) z_isinstance zaai (zaaa (qv av39 1 rfl) (zaaa (zaay (v := .ty "tuple") (gl39.g 4 rfl) z_tuple zabw rfl zabx zaby) zaab)) zaaj zaak))))) (zaad (zaa5 (zaat zadr (zaaf zaa1 (gl39.g 0 rfl) z_isinstance zaai (zaaa (qv av39 0 rfl) (zaaa (zaay (v := .ty "list") (gl39.g 5 rfl) z_list zacu rfl zacv zacw) zaab)) zaaj zaak) (zaaf zaa1 (gl39.g 0 rfl) z_isinstance zaai (zaaa (qv av39 1 rfl) (zaaa (zaay (v := .ty "list") (gl39.g 5 rfl) z_list zacu rfl zacv zacw) zaab)) zaaj zaak) (nomark _)) (zaah (zaas zac0)) zaav) (zaad (zaa5 (zab7 (zab8 (zaat zadr (zaaf zaa1 (gl39.g 0 rfl) z_isinstance zaai (zaaa (qv av39 0 rfl) (zaaa (zaay (v := .ty "tuple") (gl39.g 4 rfl) z_tuple zabw rfl zabx zaby) zaab)) zaaj zaak) (zaaf zaa1 (gl39.g 0 rfl) z_isinstance zaai (zaaa (qv av39 1 rfl) (zaaa (zaay (v := .ty "tuple") (gl39.g 4 rfl) z_tuple zabw rfl zabx zaby) zaab)) zaaj zaak) (nomark _)) (zab3 (zaat zadr (zaaf zaan (gl39.g 2 rfl) z_len PySem.boot_len (zaaa (qv av39 0 rfl) zaab zaac) zabc zabd) (zaaf zaan (gl39.g 2 rfl) z_len PySem.boot_len (zaaa (qv av39 1 rfl) zaab zaac) zabc zabd) (nomark _))))) (zaah (zaas zac0)) zaav) (zaah (zaas (zaaf (zac9 rfl) (gl39.g 3 rfl) z_all zafj (zaaa (zaa7 rfl zaeo (zait .list .list (gl39.g 6 rfl) z_zip (zaaa (qv av39 0 rfl) (zaaa (qv av39 1 rfl) zaab zaac) zaac)) (fun _ _ _ _ _ => (zack K 2 rfl rfl (zaa3 (zaap (i := 0) zaeo.nd rfl (Or.inl (zadf.k 0 rfl)) (Or.inr (zadf.k 0 rfl))) (zaa3 (zaap (i := 1) zaeo.nd rfl (Or.inl (zadf.k 1 rfl)) (Or.inr (zadf.k 1 rfl))) zacc)))) (fun _ _ _ _ _ => zaa9) (fun _ _ _ _ _ => (zaam D_law_same hr (zaob.g 0 rfl) pass0 (zaaa (qw zahe 0 rfl) (zaaa (qw zahe 1 rfl) zaab zaac) zaac) zacf))) zaab zaa0) zafl zafm))))) zaav) (zaad (zaa5 (zaa6 (zaaf zaa1 (gl39.g 0 rfl) z_isinstance zaai (zaaa (qv av39 1 rfl) (zaaa (zaay (v := .ty "str") (gl39.g 7 rfl) z_str zaib rfl zaic zaid) zaab)) zaaj zaak)) (zaah (zaas (zab2 (zaaf zaa1 (gl39.g 0 rfl) z_isinstance zaai (zaaa (qv av39 0 rfl) (zaaa (zaay (v := .ty "str") (gl39.g 7 rfl) z_str zaib rfl zaic zaid) zaab)) zaaj zaak) (zacg (zabt zacs (qv av39 0 rfl) (qv av39 1 rfl) (nomark _)))))) zaav) (zaah (zaas (zab2 (zaaf zaa1 (gl39.g 0 rfl) z_isinstance zaai (zaaa (qv av39 0 rfl) (zaaa (zaay (v := .ty "int") (gl39.g 9 rfl) z_int zaj6 rfl zaj7 zaj8) zaab)) zaaj zaak) (zab2 (zais (zaaf zaa1 (gl39.g 0 rfl) z_isinstance zaai (zaaa (qv av39 0 rfl) (zaaa (zaay (v := .ty "bool") (gl39.g 8 rfl) z_bool zaix rfl zaiy zaiz) zaab)) zaaj zaak)) (zacg (zabt zacs (qv av39 0 rfl) (qv av39 1 rfl) (nomark _)))))))))))), ?_⟩
 (try dsimp only [cxOf])
 unfold bV
 walk_at "rd"
 have e : decide (V.int (bi b) = V.int (bi b)) = true := by simp
 rw [e]
 exact q _ (Ch.refl _ _)
theorem zaqb (F : Fun K "_law_same" "_law_same" (top 39) f fd) : FnOk P w K mg base CX0 (k + 1) f fd ["_law_found", "_law_due"] spF :=
 F.ok scSame (fun vs H Q E h => h.elim) (fun cdv A outer s H vs Q E hr h => h.elim)
theorem zaqc (F : Fun K "_law_same" "_law_same" (top 39) f fd) (D_law_same : DefOk P w K mg base CX0 k "_law_same" ["_law_found", "_law_due"] (spSame 0)) (z_isinstance : mg "isinstance" = none) (z_dict : mg "dict" = none) (z_list : mg "list" = none) (z_tuple : mg "tuple" = none) (z_str : mg "str" = none) (z_int : mg "int" = none) (z_bool : mg "bool" = none) (z_len : mg "len" = none) (z_all : mg "all" = none) (z_zip : mg "zip" = none) :
  FnOk P w K mg base CX0 (k + 1) f fd ["_law_found", "_law_due"] (spSame 1) := by
 have nd := scSame.nd
 refine F.ok scSame (fun vs H Q E h => by obtain ⟨p, r, bs, rfl, _⟩ := h; rfl) (fun cdv A outer s H vs Q E hr h => ?_)
 obtain ⟨p, r, bs, rfl, hp, hr1, hl, q⟩ := h
 refine ⟨_, (Pr.h (zaad (zaa5 (zaat zajr (qv av39 1 rfl) zadc (nomark _)) (zaah (zaas (zabt zajr (qv av39 0 rfl) zadc (nomark _)))) zaav) (zaad (zaa5 (zaa6 (zaaf zaa1 (gl39.g 0 rfl) z_isinstance zaai (zaaa (qv av39 1 rfl) (zaaa (zaay (v := .ty "dict") (gl39.g 1 rfl) z_dict zacx rfl zacy zacz) zaab)) zaaj zaak)) (zaad (zaa5 (zab7 (zab8 (zabn (zaa6 (zaaf zaa1 (gl39.g 0 rfl) z_isinstance zaai (zaaa (qv av39 0 rfl) (zaaa (zaay (v := .ty "dict") (gl39.g 1 rfl) z_dict zacx rfl zacy zacz) zaab)) zaaj zaak))) (zab3 (zaat zadr (zaaf zaan (gl39.g 2 rfl) z_len PySem.boot_len (zaaa (qv av39 0 rfl) zaab zaac) zabc zabd) (zaaf zaan (gl39.g 2 rfl) z_len PySem.boot_len (zaaa (qv av39 1 rfl) zaab zaac) zabc zabd) (nomark _))))) (zaah (zaas zac0)) zaav) (zaah (zaas (zaaf (zac9 rfl) (gl39.g 3 rfl) z_all zafj (zaaa (zaa7 rfl zahb (zabj (qv av39 1 rfl)) (fun _ _ _ _ _ => (zaap (i := 0) zahb.nd rfl (Or.inl (zahc.k 0 rfl)) (Or.inr (zahc.k 0 rfl)))) (fun _ _ _ _ _ => zaa9) (fun _ _ _ _ _ => (zab2 (zabt (zage K rfl) (qw zaci 0 rfl) (qw zaci 1 rfl) rfl) (zacg (zaam D_law_same hr (zaoa.g 0 rfl) pass0 (zaaa (zaar (zacn K rfl) (qw zaci 1 rfl) (qw zaci 0 rfl) (fun _ _ => rfl)) (zaaa (zaar (zacn K rfl) (qw zaci 2 rfl) (qw zaci 0 rfl) (fun _ _ => rfl)) zaab zaau) zaau) zacf))))) zaab zaa0) zafl zafm)))) zaav) (zaad (zaa5 (zab7 (zab8 (zaa6 (zaaf zaa1 (gl39.g 0 rfl) z_isinstance zaai (zaaa (qv av39 1 rfl) (zaaa (zaay (v := .ty "list") (gl39.g 5 rfl) z_list zacu rfl zacv zacw) zaab)) zaaj zaak)) (zab3 (zaa6 (zaaf zaa1 (gl39.g 0 rfl) z_isinstance zaai (zaaa (qv av39 1 rfl) (zaaa (zaay (v := .ty "tuple") (gl39.g 4 rfl) z_tuple zabw rfl zabx zaby) zaab)) zaaj zaak))))) (zaad (zaa5 (zaat zadr (zaaf zaa1 (gl39.g 0 rfl) z_isinstance zaai (zaaa (qv av39 0 rfl) (zaaa (zaay (v := .ty "list") (gl39.g 5 rfl) z_list zacu rfl zacv zacw) zaab)) zaaj zaak) (zaaf zaa1 (gl39.g 0 rfl) z_isinstance zaai (zaaa (qv av39 1 rfl) (zaaa (zaay (v := .ty "list") (gl39.g 5 rfl) z_list zacu rfl zacv zacw) zaab)) zaaj zaak) (nomark _)) (zaah (zaas zac0)) zaav) (zaad (zaa5 (zab7 (zab8 (zaat zadr (zaaf zaa1 (gl39.g 0 rfl) z_isinstance zaai (zaaa (qv av39 0 rfl) (zaaa (zaay (v := .ty "tuple") (gl39.g 4 rfl) z_tuple zabw rfl zabx zaby) zaab)) zaaj zaak) (zaaf zaa1 (gl39.g 0 rfl) z_isinstance zaai (zaaa (qv av39 1 rfl) (zaaa (zaay (v := .ty "tuple") (gl39.g 4 rfl) z_tuple zabw rfl zabx zaby) zaab)) zaaj zaak) (nomark _)) (zab3 (zaat zadr (zaaf zaan (gl39.g 2 rfl) z_len PySem.boot_len (zaaa (qv av39 0 rfl) zaab zaac) zabc zabd) (zaaf zaan (gl39.g 2 rfl) z_len PySem.boot_len (zaaa (qv av39 1 rfl) zaab zaac) zabc zabd) (nomark _))))) (zaah (zaas zac0)) zaav) (zaah (zaas (zaaf (zac9 rfl) (gl39.g 3 rfl) z_all zafj (zaaa (zaa7 rfl zaeo (zait .list .list (gl39.g 6 rfl) z_zip (zaaa (qv av39 0 rfl) (zaaa (qv av39 1 rfl) zaab zaac) zaac)) (fun _ _ _ _ _ => (zack K 2 rfl rfl (zaa3 (zaap (i := 0) zaeo.nd rfl (Or.inl (zadf.k 0 rfl)) (Or.inr (zadf.k 0 rfl))) (zaa3 (zaap (i := 1) zaeo.nd rfl (Or.inl (zadf.k 1 rfl)) (Or.inr (zadf.k 1 rfl))) zacc)))) (fun _ _ _ _ _ => zaa9) (fun _ _ _ _ _ => (zaam D_law_same hr (zaob.g 0 rfl) pass0 (zaaa (qw zahe 0 rfl) (zaaa (qw zahe 1 rfl) zaab zaac) zaac) zacf))) zaab zaa0) zafl zafm))))) zaav) (zaad (zaa5 (zaa6 (zaaf zaa1 (gl39.g 0 rfl) z_isinstance zaai (zaaa (qv av39 1 rfl) (zaaa (zaay (v := .ty "str") (gl39.g 7 rfl) z_str zaib rfl zaic zaid) zaab)) zaaj zaak)) (zaah (zaas (zab2 (zaaf zaa1 (gl39.g 0 rfl) z_isinstance zaai (zaaa (qv av39 0 rfl) (zaaa (zaay (v := .ty "str") (gl39.g 7 rfl) z_str zaib rfl zaic zaid) zaab)) zaaj zaak) (zacg (zabt zacs (qv av39 0 rfl) (qv av39 1 rfl) (nomark _)))))) zaav) (zaah (zaas (zab2 (zaaf zaa1 (gl39.g 0 rfl) z_isinstance zaai (zaaa (qv av39 0 rfl) (zaaa (zaay (v := .ty "int") (gl39.g 9 rfl) z_int zaj6 rfl zaj7 zaj8) zaab)) zaaj zaak) (zab2 (zais (zaaf zaa1 (gl39.g 0 rfl) z_isinstance zaai (zaaa (qv av39 0 rfl) (zaaa (zaay (v := .ty "bool") (gl39.g 8 rfl) z_bool zaix rfl zaiy zaiz) zaab)) zaaj zaak)) (zacg (zabt zacs (qv av39 0 rfl) (qv av39 1 rfl) (nomark _)))))))))))), ?_⟩
 (try dsimp only [cxOf])
 walk_at "rd"
 refine iteNn rfl ?_
 walk_at "rd"
 refine zapq (bs.map bV) (bs.map bV) (fun j ys σ H' => Ch [] H H' ∧ ys = List.replicate j (V.bl true) ∧ ∃ u v, σ = [u, v]) (by rw [List.length_map, sizeLine_eq]; omega) rfl ⟨Ch.refl _ _, rfl, _, _, rfl⟩ ?_ ?_ ?_
 ·rintro j ys σ H' hj ⟨c, rfl, _⟩
  exact ⟨by simp, SqL.of (c.get hp (by simp)), SqL.of (c.get hr1 (by simp))⟩
 ·rintro j ys σ H' x z T hx hz ⟨c, rfl, u, v, rfl⟩ hT
  rw [hx] at hz
  cases hz
  obtain ⟨b, hb, rfl⟩ : ∃ b, bs[j]? = some b ∧ x = bV b := by
   rw [List.getElem?_map] at hx
   obtain ⟨z, h1, h2⟩ := Option.map_eq_some_iff.mp hx
   exact ⟨z, h1, h2.symm⟩
  walk_at "rd"
  exact ⟨by rw [← List.replicate_succ'], _, _, rfl⟩
 ·rintro ys σ H' ⟨c, rfl, _⟩
  intro D hD
  refine ⟨D, List.replicate (List.map bV bs).length true, rfl, by rw [zaag, List.map_replicate], ?_⟩
  have e : (List.replicate (List.map bV bs).length true).all id = true := by simp [List.all_replicate]
  rw [e]
  exact q _ (c.trans (Ch.new hD _))
end
end

section
theorem zasv (s : Nat) : ∀ l : List Nat, inV (nV s) (l.map nV) = decide (s ∈ l)
 | [] => rfl
 | x :: l => by
  have ih := zasv s l
  unfold inV at ih ⊢
  rw [List.map_cons, List.any_cons, ih]
  have e : eqV (nV x) (nV s) = decide (s = x) := by
   show decide ((x : Int) = (s : Int)) = _
   by_cases h : s = x
   ·subst h; simp
   ·rw [decide_eq_false h, decide_eq_false (by omega)]
  rw [e]
  by_cases h1 : s = x <;> by_cases h2 : s ∈ l <;> simp [h1, h2]
theorem zaoc : ∀ l : List Nat, (l.map nV).all flatV = true
 | [] => rfl
 | x :: l => by rw [List.map_cons, List.all_cons, zaoc l]; rfl
structure SkH (H H' : Hp) (me le : Addr) (met left : List Nat) : Prop where
 ch : Ch [] H H'
 m0 : H me = none
 l0 : H le = none
 ne : me ≠ le
 m : H' me = some (.lst (met.map nV))
 l : H' le = some (.lst (left.map nV))
section
variable {P : Program} {w : World} {K : PySem.W.Frag} {mg : Str → Option Value} {base : Heap} {f : Addr} {fd : FuncData} {k : Nat}
theorem av47 : AF (defScope (top 47)) ["_law_blocks", "_law_start", "_law_met", "_law_left", "_law_k", "_law_source"] := ⟨by decide +kernel⟩
theorem gl47 : AG (defScope (top 47)) ["len"] := ⟨by decide +kernel⟩
def spCB : Sp := fun vs H Q _ => ∃ (bl : Addr) (n ins : Nat) (bs : List Bk) (ps : List Addr), vs = [.ref bl, .int (n : Int)] ∧ H bl = some (.lst (ps.map V.ref)) ∧ BsAt .list H bs ps ∧ (∀ b ∈ bs, b.ok ins bs.length) ∧ bs.length ≤ 40 ∧ n < bs.length ∧
 ∀ (r : Bool) H', Ch [] H H' → (r = true ↔ Rc (lsOf bs) n n) → Q (.bl r) H'
theorem scCB : FnScope ["_law_blocks", "_law_start", "_law_met", "_law_left", "_law_k", "_law_source"] ["_law_blocks", "_law_start"] (defScope (top 47)) := ⟨rfl, rfl, rfl, by decide +kernel, rfl, by decide +kernel, by decide +kernel⟩
theorem zavr (F : Fun K "_law_comes_back" "_law_comes_back" (top 47) f fd) (z_len : mg "len" = none) : FnOk P w K mg base CX0 (k + 1) f fd ["_law_blocks", "_law_start"] spCB := by
 have nd := scCB.nd
 refine F.ok scCB (fun vs H Q E h => by obtain ⟨bl, n, ins, bs, ps, rfl, _⟩ := h; rfl) (fun cdv A outer s H vs Q E hr h => ?_)
 obtain ⟨bl, n, ins, bs, ps, rfl, hbl, bt, ok, l40, hn, q⟩ := h
 have lp := Paired.length bt
 refine ⟨_, (Pr.h (zaad (zaax (i := 2) nd rfl (av47.l 2 rfl) (zabz zaab)) (zac6 (zaax (i := 3) nd rfl (av47.l 3 rfl) (zabz (zaaa (qv av47 1 rfl) zaab zaac))) (zaad (zah2 PassesOwn.never (zaat zakf (zaaf zaan (gl47.g 0 rfl) z_len PySem.boot_len (zaaa (qv av47 3 rfl) zaab zaac) zabc zabd) zaae (nomark _)) (zaad (zaax (i := 4) nd rfl (av47.l 4 rfl) (zaml (qv av47 3 rfl))) (zaah (zabp PassesOwn.never rfl (zabj (zaar zaa2 (zaar zaa4 (qv av47 0 rfl) (qv av47 4 rfl) (fun _ _ => rfl)) zaae (fun _ _ => rfl))) (zaap (i := 5) nd rfl (av47.l 5 rfl)) (zaah (zaa5 (zab7 (zafb (zaat zacs (zaar zaa2 (qv av47 5 rfl) zaae (fun _ _ => rfl)) zabm (nomark _)) (zafb (zaat zacs (zaar zaa2 (zaar zaa4 (qv av47 0 rfl) (zaar zaa2 (qv av47 5 rfl) zaae (fun _ _ => rfl)) (fun _ _ => rfl)) zaae (fun _ _ => rfl)) zaae (nomark _)) (zae1 (zaat zaes (zaar zaa2 (qv av47 5 rfl) zaae (fun _ _ => rfl)) (qv av47 2 rfl) rfl))))) (zaad (zabu (zafa PySem.F.plainAttrs_list PySem.F.slot_list_append PySem.F.type_list_append zacm (qv av47 2 rfl) (zaaa (zaar zaa2 (qv av47 5 rfl) zaae (fun _ _ => rfl)) zaab zaau))) (zaah (zabu (zafa PySem.F.plainAttrs_list PySem.F.slot_list_append PySem.F.type_list_append zacm (qv av47 3 rfl) (zaaa (zaar zaa2 (qv av47 5 rfl) zaae (fun _ _ => rfl)) zaab zaau))))) zaav)))))) (zaah (zaas (zabt zahv (qv av47 1 rfl) (qv av47 2 rfl) rfl))))))), ?_⟩
 (try dsimp only [cxOf])
 walk_at "rd"
 rename_i me hme
 refine zaeu (fun σ H' => ∃ le, σ = [some (.ref bl), some (.int (n : Int)), some (.ref me), some (.ref le), none, none] ∧ SkH H H' me le [] [n]) ?_ ?_
 ·walk_at "rd"
  rename_i le hle
  exact ⟨(Ch.new hme _).trans (Ch.new hle _), hme, chFree (Ch.new hme _) hle, zaao zaag hle, zabq hle zaag, zaag⟩
 rintro σ H1 ⟨le, rfl, s0⟩
 refine zaj3 (fun m σ H' => ∃ (u4 u5 : Option V) (met left : List Nat), σ = [some (.ref bl), some (.int (n : Int)), some (.ref me), some (.ref le), u4, u5] ∧ Sk (lsOf bs) bs.length n met left ∧ SkH H H' me le met left ∧ (∀ x ∈ left, x < bs.length) ∧ m = (bs.length - met.length) + left.length ∧ m ≤ bs.length + 1) ⟨_, _, _, [], [n], rfl, Sk.start, s0, (by simpa using hn), rfl, by simp⟩ ?_ ?_
 ·clear s0
  rintro m σ H2 ⟨u4, u5, met, left, rfl, sk, sh, lf, rfl, le1⟩
  have hl2 := sh.l
  walk_at "rd"
  refine ite2 (fun hc => ?_) (fun hc => ?_)
  ·have hne : left ≠ [] := by rintro rfl; simp at hc
   obtain ⟨l', x, rfl⟩ : ∃ l' x, left = l' ++ [x] := ⟨left.dropLast, left.getLast hne, (List.dropLast_concat_getLast hne).symm⟩
   have skm := sk.pop
   rw [List.length_append, List.length_singleton] at le1
   have xlt := lf x (by simp)
   have hla : ((l' ++ [x]).map nV)[((l' ++ [x]).map nV).length - 1]? = some (nV x) := by simp
   have edl : ((l' ++ [x]).map nV).dropLast = l'.map nV := by rw [List.map_append]; exact List.dropLast_concat
   refine ⟨_, rfl, .inl ⟨rfl, _, SqL.of hl2⟩, le, _, _, rfl, rfl, hl2, hla, ?_⟩
   rw [edl]
   have sh2 : SkH H (upd H2 le (.lst (l'.map nV))) me le met l' := ⟨Ch.own sh.l0 sh.ch, sh.m0, sh.l0, sh.ne, zabg sh.ne sh.m, zaag⟩
   generalize upd H2 le (.lst (l'.map nV)) = H3 at sh2 ⊢
   obtain ⟨p, b, e1, e2, ⟨lpp, sps, hp0, hs0, ws⟩⟩ := zaf6 bt x xlt
   have okb := ok b (List.mem_of_getElem? e2)
   have hs0 : H lpp = some (.lst (sps.map V.ref)) := hs0
   have hbl3 := sh2.ch.get hbl (by simp)
   have hp := sh2.ch.get hp0 (by simp)
   have hs := sh2.ch.get hs0 (by simp)
   have lw := Paired.length ws
   rw [List.length_map] at lw
   have els := zaem e2
   have mle := sk.le
   have lf2 : ∀ y ∈ l', y < bs.length := fun y hy => lf y (by simp [hy])
   unfold nV
   clear hl2 hc hla edl
   walk_at "rd"
   clear hbl3 hp hs
   refine zadb (xs := sps.map V.ref) (fun j σ H' => ∃ (u5 : Option V) (mj lj : List Nat), σ = [some (.ref bl), some (.int (n : Int)), some (.ref me), some (.ref le), some (.int (x : Int)), u5] ∧ SkM (lsOf bs) bs.length n x (((b.ss.take j).filter fun s => s.1 && loB bs s.2).map (·.2)) mj lj ∧ SkH H H' me le mj lj ∧ (∀ y ∈ lj, y < bs.length) ∧ (bs.length - mj.length) + lj.length = (bs.length - met.length) + l'.length) ⟨_, met, l', rfl, skm, sh2, lf2, rfl⟩ ?_ ?_ ?_
   ·rintro j σ H' hj ⟨u5, mj, lj, rfl, _, sj, _⟩
    exact SqL.of (sj.ch.get hs0 (by simp))
   ·clear sk skm sh sh2 lf lf2
    rintro j z σ H' hz ⟨v5, mj, lj, rfl, kj, sj, ltj, ej⟩
    obtain ⟨pl, xx, rfl, g1, ⟨g2, _⟩⟩ := zaba ws j z hz
    rw [List.getElem?_map] at g1
    obtain ⟨sr, es, rfl⟩ := Option.map_eq_some_iff.mp g1
    have so := okb.so sr (List.mem_of_getElem? es)
    have et : b.ss.take (j + 1) = b.ss.take j ++ [sr] := by rw [List.take_add_one, es]; rfl
    rw [et, List.filter_append, List.map_append]
    obtain ⟨sb, sn⟩ := sr
    cases sb with
    | false =>
     have g2 : H' pl = some (.tup [.str "in", .int (sn : Int)]) := sj.ch.get g2 (by simp)
     walk_at "rd"
     exact ⟨by simpa using kj, sj, ltj, ej⟩
    | true =>
     have g2 : H' pl = some (.tup [.str "block", .int (sn : Int)]) := sj.ch.get g2 (by simp)
     have so : sn < bs.length := so
     obtain ⟨p2, b2, k1, k2, ⟨lp2, _, k30, _⟩⟩ := zaf6 bt sn so
     have k3 := sj.ch.get k30 (by simp)
     have hb3 := sj.ch.get hbl (by simp)
     have lo := zadm k2
     have hm3 := sj.m
     have hl3 := sj.l
     have fl := zaoc mj
     have iv := zasv sn mj
     have kle := kj.le
     have lm : (mj.map nV).length ≤ 40 := by rw [List.length_map]; omega
     have ll : (lj.map nV).length ≤ 100 := by rw [List.length_map]; omega
     walk_at "rd"
     refine ite2 (fun hc => ?_) (fun hc => ?_)
     ·have hk : b2.kept = 0 := by simpa using hc
      rw [hk] at lo
      have lin : sn ∈ lsOf bs x := by rw [els]; exact List.mem_map.mpr ⟨(true, sn), List.mem_filter.mpr ⟨List.mem_of_getElem? es, by simp [lo]⟩, rfl⟩
      have ed : ([((true, sn) : Src)].filter fun s => s.1 && loB bs s.2).map (·.2) = [sn] := by simp [lo]
      rw [ed]
      walk_at "rd"
      refine ite2 (fun hc => ?_) (fun hc => ?_)
      ·have hm : sn ∉ mj := by
        have hc : (!inV (nV sn) (mj.map nV)) = true := hc
        rw [iv] at hc
        simpa using hc
       have nml := sj.ne
       walk_at "rd"
       rw [show (mj.map nV ++ [V.int (sn : Int)]) = (mj ++ [sn]).map nV from by rw [List.map_append]; rfl, show (lj.map nV ++ [V.int (sn : Int)]) = (lj ++ [sn]).map nV from by rw [List.map_append]; rfl]
       have kn := kj.new hm lin so
       have kle2 := kn.le
       rw [List.length_append, List.length_singleton] at kle2
       refine ⟨kn, ⟨Ch.own sj.l0 (Ch.own sj.m0 sj.ch), sj.m0, sj.l0, nml, zabg nml zaag, zaag⟩, fun y hy => ?_, by rw [List.length_append, List.length_append, List.length_singleton]; omega⟩
       rcases List.mem_append.mp hy with w | w
       ·exact ltj y w
       ·rw [List.mem_singleton.mp w]; exact so
      ·have hm : sn ∈ mj := by
        have hc : ¬ (!inV (nV sn) (mj.map nV)) = true := hc
        rw [iv] at hc
        simpa using hc
       exact ⟨_, mj, lj, rfl, kj.old hm, sj, ltj, ej⟩
     ·have hk : b2.kept ≠ 0 := by simpa using hc
      have ed : ([((true, sn) : Src)].filter fun s => s.1 && loB bs s.2).map (·.2) = [] := by simp [lo, hk]
      rw [ed, List.append_nil]
      exact ⟨_, mj, lj, rfl, kj, sj, ltj, ej⟩
   ·rintro σ H' ⟨v5, mj, lj, rfl, kj, sj, ltj, ej⟩
    rw [List.length_map, ← lw, List.take_length, ← els] at kj
    exact ⟨_, by rw [List.length_append, List.length_singleton]; omega, _, _, mj, lj, rfl, kj.done, sj, ltj, rfl, by omega⟩
  ·have hne : left = [] := by
    cases left with
    | nil => rfl
    | cons y l => exact absurd (by simp) hc
   subst hne
   have hm2 := sh.m
   have fl := zaoc met
   have iv := zasv n met
   walk_at "rd"
   refine q _ _ sh.ch ?_
   have e : inV (V.int (n : Int)) (met.map nV) = decide (n ∈ met) := iv
   rw [e]
   show decide (n ∈ met) = true ↔ _
   rw [decide_eq_true_iff]
   exact sk.iff
 ·rintro σ H Q Q' hq ⟨v, h1, p, ys, h2, h3, i, j, h4, h5, k, h6, h7⟩
  exact ⟨v, h1, p, ys, h2, h3, i, j, h4, h5, k, h6, hq _ _ h7⟩
end
end

section
section
variable {P : Program} {w : World} {K : PySem.W.Frag} {mg : Str → Option Value} {base : Heap} {f : Addr} {fd : FuncData} {k : Nat}
local macro_rules | `(tactic| walk_at "user") => `(tactic| first
 | (apply zabv; (focus walk_at "get"); (focus with_reducible assumption))
 | (apply dputI; (focus walk_at "get"); (focus with_reducible assumption)))
theorem gl44 : AG (defScope (top 44)) ["dict", "range", "len"] := ⟨by decide +kernel⟩
theorem av44 : AF (defScope (top 44)) ["_law_blocks"] := ⟨by decide +kernel⟩
def zajk : Scope := { kind := PySem.ScopeKind.function, names := [ (PySem.Str.ofString ".0", PySem.NameKind.local), (PySem.Str.ofString "_law_k", PySem.NameKind.local), (PySem.Str.ofString "_law_blocks", PySem.NameKind.free)], isGenerator := false, isCoroutine := false, more := [] : PySem.Scope }
theorem zaod : CompOk zajk (defScope (top 44)) (["_law_k"] : List Str) (["_law_blocks"] : List Str) [0] (["_law_k", "_law_blocks"] : List Str) := compOk rfl (by decide +kernel) (by decide +kernel) (by decide +kernel) (by decide +kernel) rfl (by decide +kernel)
theorem zaoe : AK (relab zajk (defScope (top 44))) ["_law_k"] := ⟨by decide +kernel⟩
theorem zaf0 : AV (relab zajk (defScope (top 44))) ["_law_k", "_law_blocks"] := ⟨by decide +kernel⟩
def spFi : Sp := fun vs H Q _ => ∃ (bl : Addr) (ins : Nat) (bs : List Bk) (ps : List Addr), vs = [.ref bl] ∧ H bl = some (.lst (ps.map V.ref)) ∧ Paired (BkAt .list H) bs ps ∧ (∀ b ∈ bs, b.ok ins bs.length) ∧ bs.length ≤ 40 ∧ ∀ d H', Ch [] H H' → H d = none → H' d = some (.dK (keptD bs (fsB bs))) → Q (.ref d) H'
theorem scFi : FnScope ["_law_blocks"] ["_law_blocks"] (defScope (top 44)) := ⟨rfl, rfl, rfl, by decide +kernel, rfl, by decide +kernel, by decide +kernel⟩
theorem zavs (F : Fun K "_law_firsts" "_law_firsts" (top 44) f fd) (z_range : mg "range" = none) (z_len : mg "len" = none) (z_dict : mg "dict" = none) : FnOk P w K mg base CX0 (k + 1) f fd ["_law_blocks"] spFi := by
 have nd := scFi.nd
 refine F.ok scFi (fun vs H Q E h => by obtain ⟨bl, ins, bs, ps, rfl, _⟩ := h; rfl) (fun cdv A outer s H vs Q E hr h => ?_)
 obtain ⟨bl, ins, bs, ps, rfl, hbl, bt, ok, l40, q⟩ := h
 have lp := Paired.length bt
 refine ⟨_, (Pr.h (zaah (zaas (zabe (zac1 rfl) (gl44.g 0 rfl) z_dict zacx (zaaa (zaa7 rfl zaod (zabk (gl44.g 1 rfl) z_range (zaaa (zaaf zaan (gl44.g 2 rfl) z_len PySem.boot_len (zaaa (qv av44 0 rfl) zaab zaac) zabc zabd) zaab zabf)) (fun _ _ _ _ _ => (zaap (i := 0) zaod.nd rfl (Or.inl (zaoe.k 0 rfl)) (Or.inr (zaoe.k 0 rfl)))) (fun _ _ _ _ _ => (zacq (zaat zacs (zaar (zacj K rfl) (zaar (zacn K rfl) (qw zaf0 1 rfl) (qw zaf0 0 rfl) (fun _ _ => rfl)) zaae (fun _ _ => rfl)) zaae (nomark _)))) (fun _ _ _ _ _ => (zach (zaaa (qw zaf0 0 rfl) (zaaa (zaar (zacj K rfl) (zaar (zacn K rfl) (qw zaf0 1 rfl) (qw zaf0 0 rfl) (fun _ _ => rfl)) zaae (fun _ _ => rfl)) zaab zaau) zaac)))) zaab zaa0) zacy zacz)))), ?_⟩
 (try dsimp only [cxOf])
 walk_at "rd"
 have kl := zad2 bs
 refine zadh (fun i ys σ H' => WC H H' ((List.range i).filter (kpB bs)) (fun n => bV (fsB bs n)) ys ∧ ∃ u, σ = [u, some (.ref bl)]) (by rw [sizeLine_eq, List.length_map]; omega) ⟨⟨Ch.refl _ _, [], rfl, .nil⟩, _, rfl⟩ ?_ ?_ ?_
 ·rintro i ys σ H' hi ⟨⟨c, ts, rfl, tt⟩, _⟩
  rw [List.length_map, Paired.length tt]
  unfold wD
  rw [List.length_map]
  exact Nat.le_trans (List.length_filter_le _ _) (by rw [List.length_range]; exact Nat.le_refl _)
 ·rintro i ys σ H' hi ⟨⟨c, ts, rfl, tt⟩, u, rfl⟩
  have hi : i < bs.length := by rw [List.length_map] at hi; omega
  obtain ⟨pb, b, e1, e2, ⟨lpp, _, hp, _⟩⟩ := zaf6 bt i hi
  have e1 : atI (ps.map V.ref) (0 + (i : Int)) = some (.ref pb) := by rw [Int.zero_add]; exact e1
  have hp1 : H' pb = some (.tup [.ref lpp, .int b.bits, .int b.kept, .int b.first]) := c.get hp (by simp)
  have hbl1 := c.get hbl (by simp)
  have lo := zagg e2
  have fs := zaqx e2
  have okb := ok b (List.mem_of_getElem? e2)
  rw [List.range_succ, List.filter_append]
  walk_at "rd"
  refine ite2 (fun hc => ?_) (fun hc => ?_)
  ·have hk : b.kept = 1 := by simpa using hc
   rw [hk] at lo
   walk_at "rd"
   rename_i T2 hT2
   refine ⟨⟨c.trans (Ch.new hT2 _), ts ++ [T2], by simp, ?_⟩, _, rfl⟩
   have ef : V.int b.first = bV (fsB bs i) := by
    have f0 := okb.f0
    have f1 := okb.f1
    have : b.first = 0 ∨ b.first = 1 := by omega
    rcases this with h | h <;> rw [fs, h] <;> rfl
   have eq : wD ((List.range i).filter (kpB bs) ++ [i].filter (kpB bs)) (fun n => bV (fsB bs n)) = wD ((List.range i).filter (kpB bs)) (fun n => bV (fsB bs n)) ++ [(.inl (i : Int), bV (fsB bs i))] := by
    unfold wD; rw [List.map_append]; simp [lo]
   rw [eq]
   refine zaen ?_ (zafo (Ch.new hT2 _) tt)
   rw [zaag, ef, Int.zero_add]
   rfl
  ·have hk : b.kept ≠ 1 := by simpa using hc
   refine ⟨⟨c, ts, rfl, ?_⟩, _, rfl⟩
   have eq : ([i].filter (kpB bs)) = [] := by simp [lo, hk]
   rw [eq, List.append_nil]
   exact tt
 rintro ys σ H6 ⟨⟨c6, ts, rfl, tt⟩, _⟩
 rw [List.length_map, Int.toNat_natCast, ← lp] at tt
 intro D hD
 have cD : Ch [] H6 (upd H6 D (.lst (ts.map V.ref))) := Ch.new hD _
 refine ⟨D, ts, keptD bs (fsB bs), rfl, zaag, Paired.length tt, zak0 (zafo cD tt), zafn (zadk bs), ?_, fun kd hkd => ?_⟩
 ·show (wD (keptOf bs) _).length ≤ _
  unfold wD; rw [List.length_map, sizeLine_eq]; omega
 exact q kd _ ((c6.trans cD).trans (Ch.new hkd _)) (chFree (c6.trans cD) hkd) zaag
end
end

section
structure Box (Pd : Prop) : Prop where
 h : Pd
structure Kl (ex : List Addr) (H H' : Hp) : Prop where
 t : Tu H H'
 l : ∀ p xs, p ∉ ex → H p = some (.lst xs) → H' p = some (.lst xs)
theorem Kl.new {ex : List Addr} {H H' : Hp} (c : Ch [] H H') : Kl ex H H' := ⟨Tu.same c, fun p xs _ h => c.get h (by simp)⟩
theorem Kl.one {ex : List Addr} {H H' : Hp} {b : Addr} {zs : List V} (c : Ch [b] H H') (hb : H b = some (.lst zs)) (m : b ∈ ex) : Kl ex H H' := ⟨Tu.lst c hb, fun p xs n h => c.get h (fun z => n (by rw [List.mem_singleton.mp z]; exact m))⟩
theorem Kl.trans {ex : List Addr} {H H1 H2 : Hp} (a : Kl ex H H1) (b : Kl ex H1 H2) : Kl ex H H2 := ⟨a.t.trans b.t, fun p xs n h => b.l p xs n (a.l p xs n h)⟩
theorem DQ.kl {K : PySem.W.Frag} {H H' : Hp} {a b : Addr} {ns : List Int} {c c' : Int} {ex : List Addr} (d : DQ K H H' a b ns c) (h : H b = some (.lst [.int c'])) (m : b ∈ ex) : Kl ex H H' := Kl.one d.ch h m
def BkL (ex : List Addr) (H : Hp) (t : Bk) (p : Addr) : Prop := ∃ (lp : Addr) (ps : List Addr), lp ∉ ex ∧ H p = some (.tup [.ref lp, .int t.bits, .int t.kept, .int t.first]) ∧ H lp = some (.lst (ps.map V.ref)) ∧ Paired (PgAt H) (t.ss.map sg) ps
theorem BkL.kl {ex : List Addr} {H H' : Hp} (k : Kl ex H H') {t : Bk} {p : Addr} (s : BkL ex H t p) : BkL ex H' t p := let ⟨lp, ps, n, a, b, w⟩ := s; ⟨lp, ps, n, k.t _ _ a, k.l _ _ n b, zaal (fun _ _ e => PgAt.tu k.t e) w⟩
theorem BkL.weak {b t : Addr} {H : Hp} {x : Bk} {p : Addr} (s : BkL [b, t] H x p) : BkL [b] H x p := let ⟨lp, ps, n, a, b, w⟩ := s; ⟨lp, ps, by simp only [List.mem_cons, List.not_mem_nil, or_false, not_or] at n ⊢; exact n.1, a, b, w⟩
theorem BkL.at_ {ex : List Addr} {H : Hp} {x : Bk} {p : Addr} (s : BkL ex H x p) : BkAt .list H x p := let ⟨lp, ps, _, a, b, w⟩ := s; ⟨lp, ps, a, b, w⟩
theorem zaux {H : Hp} {x : Src} {p : Addr} (h : H p = some (.tup (sg x))) : PgAt H (sg x) p := ⟨h, .inr ⟨_, _, rfl⟩⟩
structure Fr (row : List Nat) (kinds : List Bool) (n : Nat) (s : Src) : Prop where
 h : kinds[n]? = some false → s.1 = true → kinds[s.2]? = some true ∨ row.idxOf s.2 < row.idxOf n
structure BL (K : PySem.W.Frag) (H H' : Hp) (a b : Addr) (ns : List Int) (bl : Addr) (ins many : Nat) (row : List Nat) (kinds : List Bool) (bs : List Bk) (c : Int) : Prop where
 d : DQ K H H' a b ns c
 tb : ∃ ps, H' bl = some (.lst (ps.map V.ref)) ∧ Paired (BkL [b, bl] H') bs ps
 ok : ∀ x ∈ bs, x.ok ins many
 fr : ∀ (n : Nat) (x : Bk), bs[n]? = some x → (∃ kb, kinds[n]? = some kb ∧ x.kept = bi kb) ∧ ∀ s ∈ x.ss, Fr row kinds n s
structure LL (K : PySem.W.Frag) (H H' : Hp) (a b : Addr) (ns : List Int) (lp : Addr) (ins many n : Nat) (row : List Nat) (kinds : List Bool) (ss : List Src) (c : Int) : Prop where
 d : DQ K H H' a b ns c
 ex : ∃ qs, H' lp = some (.lst (qs.map V.ref)) ∧ Paired (PgAt H') (ss.map sg) qs
 lo : ∀ s ∈ ss, s.2 < lim ins many s.1 ∧ Fr row kinds n s
def OpAt (H : Hp) (o : Option Src) (v : V) : Prop := match o with
 | none => v = .non
 | some x => ∃ p, v = .ref p ∧ H p = some (.tup (sg x))
structure OL (K : PySem.W.Frag) (H H' : Hp) (a b : Addr) (ns : List Int) (ins many : Nat) (os : List (Option Src)) (ys : List V) (c : Int) : Prop where
 d : DQ K H H' a b ns c
 ex : Paired (OpAt H') os ys
 lo : ∀ x, some x ∈ os → x.2 < lim ins many x.1
theorem zasw {n : Nat} (h : n ≤ 4) : atI [V.int 2, V.int 4, V.int 16, V.int 256, V.int 65536] (n : Int) = some (.int (room n)) := by
 have e5 : n = 0 ∨ n = 1 ∨ n = 2 ∨ n = 3 ∨ n = 4 := by omega
 rcases e5 with rfl | rfl | rfl | rfl | rfl <;> rfl
theorem zaqd {n : Nat} (h : n ≤ 4) : 0 < room n ∧ room n ≤ 65536 := by
 have e5 : n = 0 ∨ n = 1 ∨ n = 2 ∨ n = 3 ∨ n = 4 := by omega
 rcases e5 with rfl | rfl | rfl | rfl | rfl <;> decide
section
variable {P : Program} {w : World} {K : PySem.W.Frag} {mg : Str → Option Value} {base : Heap} {f : Addr} {fd : FuncData} {k : Nat}
theorem zadl : Nd "_law_drawn_source" := by decide +kernel
theorem av40 : AF (defScope (top 40)) ["_law_script", "_law_at", "_law_ins", "_law_blocks", "_law_m", "_law_k"] := ⟨by decide +kernel⟩
theorem gl40 : AG (defScope (top 40)) ["_law_next"] := ⟨by decide +kernel⟩
def spSrc (K : PySem.W.Frag) : Sp := fun vs H Q _ => ∃ (a b : Addr) (ns : List Int) (c : Int) (ins many : Nat), vs = [.ref a, .ref b, .int (ins : Int), .int (many : Int)] ∧ Scr K H a ns ∧ H b = some (.lst [.int c]) ∧ 0 ≤ c ∧ c < 2 ^ 60 ∧
 (ins + many = 0 → ∀ H', Ch [b] H H' → H' b = some (.lst [.int (c + 1)]) → Q .non H') ∧ ∀ (p : Addr) (x : Src) (H' : Hp), Ch [b] H H' → H' b = some (.lst [.int (c + 1)]) → x.2 < lim ins many x.1 → H' p = some (.tup (sg x)) → Q (.ref p) H'
theorem scSrc : FnScope ["_law_script", "_law_at", "_law_ins", "_law_blocks", "_law_m", "_law_k"] ["_law_script", "_law_at", "_law_ins", "_law_blocks"] (defScope (top 40)) := ⟨rfl, rfl, rfl, by decide +kernel, rfl, by decide +kernel, by decide +kernel⟩
theorem zauy (F : Fun K "_law_drawn_source" "_law_drawn_source" (top 40) f fd) (D_law_next : DefOk P w K mg base CX0 k "_law_next" ["_law_script", "_law_at"] (spNext K)) : FnOk P w K mg base CX0 (k + 1) f fd ["_law_script", "_law_at", "_law_ins", "_law_blocks"] (spSrc K) := by
 have nd := scSrc.nd
 refine F.ok scSrc (fun vs H Q E h => by obtain ⟨a, b, ns, c, ins, many, rfl, _⟩ := h; rfl) (fun cdv A outer s H vs Q E hr h => ?_)
 obtain ⟨a, b, ns, c, ins, many, rfl, hS, hb, h0, h1, q1, q2⟩ := h
 refine ⟨_, (Pr.h (zaad (zaax (i := 4) nd rfl (av40.l 4 rfl) (zaam D_law_next hr (gl40.g 0 rfl) pass0 (zaaa (qv av40 0 rfl) (zaaa (qv av40 1 rfl) zaab zaac) zaac) zab1)) (zaad (zaa5 (zaat zacs (zaaz zaeq (qv av40 2 rfl) (qv av40 3 rfl)) zaae (nomark _)) (zaah (zaas zadc)) zaav) (zaad (zaax (i := 5) nd rfl (av40.l 5 rfl) (zaaz zab6 (qv av40 4 rfl) (zaaz zaeq (qv av40 2 rfl) (qv av40 3 rfl)))) (zaad (zaa5 (zaat zao5 (qv av40 5 rfl) (qv av40 2 rfl) (nomark _)) (zaah (zaas (zach (zaaa zabm (zaaa (qv av40 5 rfl) zaab zaac) zaaq)))) zaav) (zaah (zaas (zach (zaaa zabm (zaaa (zaaz zaqi (qv av40 5 rfl) (qv av40 2 rfl)) zaab zacb) zaaq))))))))), ?_⟩
 (try dsimp only [cxOf])
 walk_at "rd"
 rename_i m H1 m0 m1 c1 b1
 refine ite2 (fun hc => ?_) (fun hc => ?_)
 ·have hz : (ins : Int) + (many : Int) = 0 := by simpa using hc
  walk_at "rd"
  exact q1 (by omega) _ c1 b1
 ·have hz : ¬ ((ins : Int) + (many : Int) = 0) := by simpa using hc
  have hp : 0 < (ins : Int) + (many : Int) := by omega
  have e0 : 0 ≤ m % ((ins : Int) + (many : Int)) := Int.emod_nonneg _ hz
  have e1 := Int.emod_lt_of_pos m hp
  obtain ⟨n, en⟩ := Int.eq_ofNat_of_zero_le e0
  walk_at "rd"
  refine ite2 (fun hc => ?_) (fun hc => ?_)
  ·have hl : m % ((ins : Int) + (many : Int)) < (ins : Int) := by simpa using hc
   walk_at "rd"
   rename_i T hT
   exact q2 T (false, n) _ (c1.trans (Ch.new hT _)) (zabq hT b1) (by show n < ins; omega) (by rw [zaag]; show some (HO.tup [V.str "in", V.int (m % ((ins : Int) + (many : Int)))]) = _; rw [en]; rfl)
  ·have hl : ¬ m % ((ins : Int) + (many : Int)) < (ins : Int) := by simpa using hc
   walk_at "rd"
   rename_i T hT
   refine q2 T (true, n - ins) _ (c1.trans (Ch.new hT _)) (zabq hT b1) (by show n - ins < many; omega) ?_
   rw [zaag]
   show some (HO.tup [V.str "block", V.int (m % ((ins : Int) + (many : Int)) - (ins : Int))]) = some (HO.tup [V.str "block", V.int ((n - ins : Nat) : Int)])
   rw [show ((n - ins : Nat) : Int) = m % ((ins : Int) + (many : Int)) - (ins : Int) from by omega]
theorem av46 : AF (defScope (top 46)) ["_law_script", "_law_at", "_law_ins", "_law_many", "_law_blocks", "_law_k", "_law_m", "_law_kept", "_law_sources"] := ⟨by decide +kernel⟩
theorem gl46 : AG (defScope (top 46)) ["range", "_law_next", "int", "len"] := ⟨by decide +kernel⟩
def zahf : Scope := { kind := PySem.ScopeKind.function, names := [ (PySem.Str.ofString ".0", PySem.NameKind.local), (PySem.Str.ofString "_law_j", PySem.NameKind.local), (PySem.Str.ofString "_law_drawn_source", PySem.NameKind.globalImplicit), (PySem.Str.ofString "_law_at", PySem.NameKind.free), (PySem.Str.ofString "_law_ins", PySem.NameKind.free), (PySem.Str.ofString "_law_many", PySem.NameKind.free), (PySem.Str.ofString "_law_script", PySem.NameKind.free)], isGenerator := false, isCoroutine := false, more := [] : PySem.Scope }
theorem zaof : CompOk zahf (defScope (top 46)) (["_law_j"] : List Str) (["_law_script", "_law_at", "_law_ins", "_law_many", "_law_blocks", "_law_k", "_law_m", "_law_kept", "_law_sources"] : List Str) [0, 1, 2, 3] (["_law_j", "_law_script", "_law_at", "_law_ins", "_law_many"] : List Str) := compOk rfl (by decide +kernel) (by decide +kernel) (by decide +kernel) (by decide +kernel) rfl (by decide +kernel)
theorem zaog : AK (relab zahf (defScope (top 46))) ["_law_j"] := ⟨by decide +kernel⟩
theorem zasx : AG (relab zahf (defScope (top 46))) ["_law_drawn_source"] := ⟨by decide +kernel⟩
theorem zahg : AV (relab zahf (defScope (top 46))) ["_law_j", "_law_script", "_law_at", "_law_ins", "_law_many"] := ⟨by decide +kernel⟩
structure BL2 (K : PySem.W.Frag) (H H' : Hp) (a b : Addr) (ns : List Int) (bl : Addr) (ins many : Nat) (bs : List Bk) (c : Int) : Prop where
 d : DQ K H H' a b ns c
 tb : ∃ ps, H' bl = some (.lst (ps.map V.ref)) ∧ Paired (BkL [b, bl] H') bs ps
 ok : ∀ x ∈ bs, x.ok ins many
structure LL2 (K : PySem.W.Frag) (H H' : Hp) (a b : Addr) (ns : List Int) (ins many : Nat) (ss : List Src) (ys : List V) (c : Int) : Prop where
 d : DQ K H H' a b ns c
 ex : ∃ qs, ys = qs.map V.ref ∧ Paired (PgAt H') (ss.map sg) qs
 lo : ∀ s ∈ ss, s.2 < lim ins many s.1
structure AB (K : PySem.W.Frag) (H H' : Hp) (a b : Addr) (ns : List Int) (c : Int) (bl : Addr) (ins : Nat) (bs : List Bk) : Prop where
 d : ∃ c', DQ K H H' a b ns c' ∧ c ≤ c' ∧ c' ≤ c + 1000
 tb : ∃ ps, H' bl = some (.lst (ps.map V.ref)) ∧ Paired (BkL [b] H') bs ps
 ok : ∀ x ∈ bs, x.ok ins bs.length
 nb : bl ≠ b
def spAny (K : PySem.W.Frag) : Sp := fun vs H Q _ => ∃ (a b : Addr) (ns : List Int) (c : Int) (ins many : Nat), vs = [.ref a, .ref b, .int (ins : Int), .int (many : Int)] ∧ Scr K H a ns ∧ H b = some (.lst [.int c]) ∧ 0 ≤ c ∧ c < 2 ^ 50 ∧ ins ≤ 20 ∧ 1 ≤ many ∧ many ≤ 20 ∧
 ∀ (bl : Addr) (bs : List Bk) (H' : Hp), AB K H H' a b ns c bl ins bs → bs.length = many → Q (.ref bl) H'
theorem zauz {m : Int} : ∃ r : Nat, atI [V.int 1, V.int 2, V.int 1, V.int 3, V.int 0, V.int 4] (m / 4 % 6) = some (.int (r : Int)) ∧ r ≤ 4 := by
 have : m / 4 % 6 = 0 ∨ m / 4 % 6 = 1 ∨ m / 4 % 6 = 2 ∨ m / 4 % 6 = 3 ∨ m / 4 % 6 = 4 ∨ m / 4 % 6 = 5 := by omega
 rcases this with h | h | h | h | h | h <;> rw [h]
 ·exact ⟨1, rfl, by decide⟩
 ·exact ⟨2, rfl, by decide⟩
 ·exact ⟨1, rfl, by decide⟩
 ·exact ⟨3, rfl, by decide⟩
 ·exact ⟨0, rfl, by decide⟩
 ·exact ⟨4, rfl, by decide⟩
theorem scAny : FnScope ["_law_script", "_law_at", "_law_ins", "_law_many", "_law_blocks", "_law_k", "_law_m", "_law_kept", "_law_sources"] ["_law_script", "_law_at", "_law_ins", "_law_many"] (defScope (top 46)) := ⟨rfl, rfl, rfl, by decide +kernel, rfl, by decide +kernel, by decide +kernel⟩
theorem zau0 (F : Fun K "_law_any_blocks" "_law_any_blocks" (top 46) f fd) (D_law_next : DefOk P w K mg base CX0 k "_law_next" ["_law_script", "_law_at"] (spNext K)) (D_law_drawn_source : DefOk P w K mg base CX0 k "_law_drawn_source" ["_law_script", "_law_at", "_law_ins", "_law_blocks"] (spSrc K)) (z_range : mg "range" = none) (z_len : mg "len" = none) (z_int : mg "int" = none) : FnOk P w K mg base CX0 (k + 1) f fd ["_law_script", "_law_at", "_law_ins", "_law_many"] (spAny K) := by
 have nd := scAny.nd
 refine F.ok scAny (fun vs H Q E h => by obtain ⟨a, b, ns, c, ins, many, rfl, _⟩ := h; rfl) (fun cdv A outer s H vs Q E hr h => ?_)
 obtain ⟨a, b, ns, c, ins, many, rfl, hS, hb, h0, h1, i20, m1, m20, q⟩ := h
 refine ⟨_, (Pr.h (zaad (zaax (i := 4) nd rfl (av46.l 4 rfl) (zabz zaab)) (zaad (zabp PassesOwn.never rfl (zabk (gl46.g 0 rfl) z_range (zaaa (qv av46 3 rfl) zaab zaac)) (zaap (i := 5) nd rfl (av46.l 5 rfl)) (zaad (zaax (i := 6) nd rfl (av46.l 6 rfl) (zaam D_law_next hr (gl46.g 1 rfl) pass0 (zaaa (qv av46 0 rfl) (zaaa (qv av46 1 rfl) zaab zaac) zaac) zab1)) (zaad (zaax (i := 7) nd rfl (av46.l 7 rfl) (zabe zalj (gl46.g 2 rfl) z_int zaj6 (zaaa (zabt zacs (zaaz zab6 (qv av46 6 rfl) zaae) zaae (nomark _)) zaab zakp) zaj7 zaj8)) (zaad (zadi (i := 8) nd rfl (av46.l 8 rfl) rfl zaof (zabk (gl46.g 0 rfl) z_range (zaaa (zaar zaa4 (zabz (zaaa zaae (zaaa zaae (zaaa zaae (zaaa zaae (zaaa zaae (zaaa zaae zaab zaaq) zaaq) zaaq) zaaq) zaaq) zaaq)) (zaaz zab6 (zaaz zac4 (qv av46 6 rfl) zaae) zaae) (fun _ _ => rfl)) zaab zaau)) (fun _ _ _ _ _ => (zaap (i := 0) zaof.nd rfl (Or.inl (zaog.k 0 rfl)) (Or.inr (zaog.k 0 rfl)))) (fun _ _ _ _ _ => zaa9) (fun _ _ _ _ _ => (zaam D_law_drawn_source hr (zasx.g 0 rfl) pass0 (zaaa (qw zahg 1 rfl) (zaaa (qw zahg 2 rfl) (zaaa (qw zahg 3 rfl) (zaaa (qw zahg 4 rfl) zaab zaac) zaac) zaac) zaac) zadl)) rfl) (zaah (zabu (zafa PySem.F.plainAttrs_list PySem.F.slot_list_append PySem.F.type_list_append zacm (qv av46 4 rfl) (zaaa (zach (zaaa (qv av46 8 rfl) (zaaa (zaaz zab6 (zaam D_law_next hr (gl46.g 1 rfl) pass0 (zaaa (qv av46 0 rfl) (zaaa (qv av46 1 rfl) zaab zaac) zaac) zab1) (zaar zaa4 (zabz (zaaa zaae (zaaa zaae (zaaa zaae (zaaa zaae (zaaa zaae zaab zaaq) zaaq) zaaq) zaaq) zaaq)) (zaaf zaan (gl46.g 3 rfl) z_len PySem.boot_len (zaaa (qv av46 8 rfl) zaab zaac) zabc zabd) (fun _ _ => rfl))) (zaaa (qv av46 7 rfl) (zaaa (zaaz zaer (zaaz zab6 (zaaz zac4 (qv av46 6 rfl) zaae) zaae) (qv av46 7 rfl)) zaab zacb) zaac) zacb) zaac)) zaab zapk)))))))) (zaah (zaas (qv av46 4 rfl)))))), ?_⟩
 (try dsimp only [cxOf])
 walk_at "rd"
 rename_i bl hbl
 have nbl : b ≠ bl := zaao hb hbl
 have d0 : DQ K H H a b ns c := ⟨Ch.refl _ _, hS, hb⟩
 refine zacl (fun i σ H' => ∃ (c' : Int) (bs : List Bk) (u5 u6 u7 u8 : Option V), σ = [some (.ref a), some (.ref b), some (.int (ins : Int)), some (.int (many : Int)), some (.ref bl), u5, u6, u7, u8] ∧ BL2 K H H' a b ns bl ins many bs c' ∧ bs.length = i ∧ CI c' c (12 * i)) ⟨c, [], _, _, _, _, rfl, ⟨d0.new (Ch.new hbl _), ⟨[], zaag, .nil⟩, by simp⟩, rfl, by omega, by simp⟩ ?_ ?_
 ·rintro i σ H' hi ⟨c', bs, u5, u6, u7, u8, rfl, bL, lb, ci⟩
  have hi : i < many := by simpa using hi
  have ci1 := ci.lo
  have ci2 := ci.hi
  have hS' := bL.d.hS
  have hb' := bL.d.hb
  walk_at "rd"
  rename_i m5 H5 m50 m51 c5 b5 l6 hl6
  obtain ⟨r, er, r4⟩ := zauz (m := m5)
  have d5 : DQ K H' (upd H5 l6 (.lst [V.int 1, V.int 2, V.int 1, V.int 3, V.int 0, V.int 4])) a b ns (c' + 1) := ((⟨Ch.refl _ _, hS', hb'⟩ : DQ K H' H' a b ns c').next c5 b5).new (Ch.new hl6 _)
  refine Atx.of er ?_
  walk_at "rd"
  generalize upd H5 l6 (.lst [V.int 1, V.int 2, V.int 1, V.int 3, V.int 0, V.int 4]) = H6 at d5 ⊢
  clear c5 b5 hl6 er
  refine zadh (fun j ys σ H'' => ∃ (c'' : Int) (ss : List Src), LL2 K H' H'' a b ns ins many ss ys c'' ∧ ss.length = j ∧ CI c'' (c' + 1) j ∧ ∃ u, σ = [u, some (.ref a), some (.ref b), some (.int (ins : Int)), some (.int (many : Int))]) (by rw [sizeLine_eq]; omega) ⟨c' + 1, [], ⟨d5, ⟨[], rfl, .nil⟩, by simp⟩, rfl, ⟨by omega, by omega⟩, _, rfl⟩ ?_ ?_ ?_
  ·rintro j ys σ H'' hj ⟨c'', ss, ⟨_, ⟨qs, rfl, ws⟩, _⟩, ls, _⟩
   have lw := Paired.length ws
   rw [List.length_map] at lw ⊢
   omega
  ·rintro j ys σ H'' hj ⟨c'', ss, lL, ls, cj, u, rfl⟩
   have hj : j < r := by simpa using hj
   have cj1 := cj.lo
   have cj2 := cj.hi
   have hS2 := lL.d.hS
   have hb2 := lL.d.hb
   obtain ⟨qs, rfl, ws⟩ := lL.ex
   have bx : Box (Scr K H'' a ns) := ⟨hS2⟩
   clear hS2 hS' hS
   walk_at "rd"
   refine ⟨bx.h, hb2, by omega, by omega, fun z => by omega, fun p x H6' c6 b6 lx hx => ?_⟩
   have tu := Tu.lst c6 hb2
   refine ⟨c'' + 1, ss ++ [x], ⟨lL.d.next c6 b6, ⟨qs ++ [p], by simp, ?_⟩, fun y hy => ?_⟩, by simp [ls], ⟨by omega, by omega⟩, _, rfl⟩
   ·rw [List.map_append]
    exact zaca (zaux hx) (zaal (fun _ _ e => PgAt.tu tu e) ws)
   ·rcases List.mem_append.mp hy with z | z
    ·exact lL.lo y z
    ·rw [List.mem_singleton.mp z]; exact lx
  rintro ys σ H7 ⟨c'', ss, lL, ls, cj, _⟩
  have ls : ss.length = r := by simpa using ls
  have cj1 := cj.lo
  have cj2 : c'' ≤ c' + 1 + 4 := by have := cj.hi; simp at this; omega
  obtain ⟨qs, rfl, ws⟩ := lL.ex
  intro lp hlp
  have dL : DQ K H' (upd H7 lp (.lst (qs.map V.ref))) a b ns c'' := lL.d.new (Ch.new hlp _)
  have nbp : b ≠ lp := zaao lL.d.hb hlp
  have flp : H' lp = none := lL.d.free hlp
  have gq : (upd H7 lp (.lst (qs.map V.ref))) lp = some (.lst (qs.map V.ref)) := zaag
  have ws : Paired (PgAt (upd H7 lp (.lst (qs.map V.ref)))) (ss.map sg) qs := zaal (fun _ _ e => PgAt.tu (Tu.new _ hlp) e) ws
  have lo := lL.lo
  generalize upd H7 lp (.lst (qs.map V.ref)) = H'' at dL gq ws ⊢
  clear lL d5 hlp
  have lw := Paired.length ws
  rw [List.length_map] at lw
  have lj : ss.length ≤ 4 := by omega
  have hS2 := dL.hS
  have hb2 := dL.hb
  have ra : atI [V.int 2, V.int 4, V.int 16, V.int 256, V.int 65536] ((qs.map V.ref).length : Int) = some (.int (room ss.length)) := by rw [List.length_map, ← lw]; exact zasw lj
  obtain ⟨rp, rp2⟩ := zaqd lj
  obtain ⟨bps, gb, bb⟩ := bL.tb
  have lbb := Paired.length bb
  have b12 : (bps.map V.ref).length ≤ 20 := by rw [List.length_map]; omega
  have gb2 : H'' bl = some (.lst (bps.map V.ref)) := dL.ch.get gb (by simpa using nbl.symm)
  have lpl : lp ≠ bl := (zaao gb flp).symm
  obtain ⟨kb, ekb⟩ : ∃ kb : Bool, (if decide (V.int (m5 % 4) = V.int 0) = true then (1 : Int) else 0) = bi kb := by
   by_cases z : decide (V.int (m5 % 4) = V.int 0) = true
   ·exact ⟨true, by rw [if_pos z]; rfl⟩
   ·exact ⟨false, by rw [if_neg z]; rfl⟩
  rw [ekb]
  clear ekb
  walk_at "rd"
  rename_i n8 H8 n80 n81 c8 b8 p9 hp9 T hT
  dsimp only at *
  have d8 : DQ K H H8 a b ns (c'' + 1) := (bL.d.trans dL).next c8 b8
  have gb8 : H8 bl = some (.lst (bps.map V.ref)) := c8.get gb2 (by simpa using nbl.symm)
  have cc : Ch [] H8 (upd (upd H8 p9 (.lst [V.int 2, V.int 4, V.int 16, V.int 256, V.int 65536])) T (.tup [.ref lp, .int (n8 % room ss.length), .int (bi kb), .int (m5 / 24 % 2 * bi kb)])) := (Ch.new hp9 _).trans (Ch.new hT _)
  have gT : (upd (upd H8 p9 (.lst [V.int 2, V.int 4, V.int 16, V.int 256, V.int 65536])) T (.tup [.ref lp, .int (n8 % room ss.length), .int (bi kb), .int (m5 / 24 % 2 * bi kb)])) bl = some (.lst (bps.map V.ref)) := cc.get gb8 (by simp)
  have tT : (upd (upd H8 p9 (.lst [V.int 2, V.int 4, V.int 16, V.int 256, V.int 65536])) T (.tup [.ref lp, .int (n8 % room ss.length), .int (bi kb), .int (m5 / 24 % 2 * bi kb)])) T = some (.tup [.ref lp, .int (n8 % room ss.length), .int (bi kb), .int (m5 / 24 % 2 * bi kb)]) := zaag
  have nTl : T ≠ bl := (zaao (zabq hp9 gb8) hT).symm
  generalize upd (upd H8 p9 (.lst [V.int 2, V.int 4, V.int 16, V.int 256, V.int 65536])) T (.tup [.ref lp, .int (n8 % room ss.length), .int (bi kb), .int (m5 / 24 % 2 * bi kb)]) = H9 at cc gT tT ⊢
  have dJ := (d8.new cc).own (zs := bps.map V.ref ++ [.ref T]) hbl gT nbl
  have kT : Kl [b, bl] H'' (upd H9 bl (.lst (bps.map V.ref ++ [.ref T]))) := ((Kl.one c8 hb2 (by simp)).trans (Kl.new cc)).trans (Kl.one Ch.put gT (by simp))
  have kA : Kl [b, bl] H' (upd H9 bl (.lst (bps.map V.ref ++ [.ref T]))) := (dL.kl hb' (by simp)).trans kT
  have nex : lp ∉ [b, bl] := by simp [nbp.symm, lpl]
  have k01 := bi01 kb
  have okn : Bk.ok ins many ⟨ss, n8 % room ss.length, bi kb, m5 / 24 % 2 * bi kb⟩ := ⟨lj, lo, Int.emod_nonneg _ (by omega), Int.emod_lt_of_pos _ rp, by show bi kb = 0 ∨ bi kb = 1; omega, by show 0 ≤ m5 / 24 % 2 * bi kb; cases kb <;> simp [bi] <;> omega, by show m5 / 24 % 2 * bi kb ≤ bi kb; cases kb <;> simp [bi] <;> omega⟩
  refine ⟨⟨dJ, ⟨bps ++ [T], by rw [zaag, List.map_append]; rfl, zaca (x := ⟨ss, n8 % room ss.length, bi kb, m5 / 24 % 2 * bi kb⟩) ⟨lp, qs, nex, zabg nTl tT, kT.l _ _ nex gq, zaal (fun _ _ e => PgAt.tu kT.t e) ws⟩ (zaal (fun _ _ z => BkL.kl kA z) bb)⟩, fun x hx => ?_⟩, by simp [lb], by omega, by omega⟩
  rcases List.mem_append.mp hx with z | z
  ·exact bL.ok x z
  ·rw [List.mem_singleton.mp z]; exact okn
 ·rintro σ H' ⟨c', bs, u5, u6, u7, u8, rfl, bL, lb, ci⟩
  have lb : bs.length = many := by simpa using lb
  have ci1 := ci.lo
  have ci2 : c' ≤ c + 12 * many := by have := ci.hi; simp at this; omega
  walk_at "rd"
  obtain ⟨ps, g, bb⟩ := bL.tb
  exact q bl bs _ ⟨⟨c', bL.d, by omega, by omega⟩, ⟨ps, g, zaal (fun _ _ z => BkL.weak z) bb⟩, by rw [lb]; exact bL.ok, nbl.symm⟩ lb
end
end

section
local macro_rules | `(tactic| walk_at "user") => `(tactic| first | (refine Or.inl (Exists.intro _ (And.intro rfl ?_)); with_reducible assumption) | (refine Or.inr (Exists.intro _ (And.intro rfl ?_)); with_reducible assumption))
theorem Ch.inst {H : Hp} {x dx C : Addr} (hx : H x = none) (hd : H dx = none) (n : dx ≠ x) : Ch [] H (upd (upd H dx (.own x)) x (.ins C dx [])) := (Ch.new hd _).trans (Ch.new (by rw [zaaw n.symm]; exact hx) _)
theorem Ch.forget {W : List Addr} {H H' : Hp} (c : Ch W H H') (h : ∀ w ∈ W, H w = none) : Ch [] H H' := fun a o e _ => c a o e fun z => by rw [h a z] at e; cases e
theorem Ch.made {H H' : Hp} {x dx C : Addr} (hx : H x = none) (hd : H dx = none) (n : dx ≠ x) (c : Ch [x] (upd (upd H dx (.own x)) x (.ins C dx [])) H') : Ch [] H H' :=
 Ch.forget ((Ch.inst (C := C) hx hd n).wk.trans c) (fun w hw => by rw [List.mem_singleton.mp hw]; exact hx)
structure WP (K : PySem.W.Frag) (CE c0 c1 c2 c3 c4 c6 c7 c8 c9 c10 : Addr) : Prop where
 xa : XA K CE
 k0 : PySem.W.kitOne K (.ref CE) (.ref c0) = some false
 k1 : PySem.W.kitOne K (.ref CE) (.ref c1) = some false
 k2 : PySem.W.kitOne K (.ref CE) (.ref c2) = some false
 k3 : PySem.W.kitOne K (.ref CE) (.ref c3) = some false
 k4 : PySem.W.kitOne K (.ref CE) (.ref c4) = some false
 k5 : PySem.W.kitOne K (.ref CE) (.ref CE) = some true
 k6 : PySem.W.kitOne K (.ref CE) (.ref c6) = some false
 k7 : PySem.W.kitOne K (.ref CE) (.ref c7) = some false
 k8 : PySem.W.kitOne K (.ref CE) (.ref c8) = some false
 k9 : PySem.W.kitOne K (.ref CE) (.ref c9) = some false
 k10 : PySem.W.kitOne K (.ref CE) (.ref c10) = some false
 kv : PySem.W.kitOne K (.ref CE) (.type "ValueError") = some true
def only5 : List Bool := [false, false, false, false, false, true, false, false, false, false, false]
section
variable {P : Program} {w : World} {K : PySem.W.Frag} {mg : Str → Option Value} {base : Heap} {f : Addr} {fd : FuncData} {k : Nat}
theorem zaqe : Nd "NoNet" := by decide +kernel
theorem zak6 : Nd "NoSense" := by decide +kernel
theorem zaoh : Nd "NoText" := by decide +kernel
theorem zajl : Nd "NoTables" := by decide +kernel
theorem zaoi : Nd "NoRoom" := by decide +kernel
theorem zahh : Nd "OutOfFloor" := by decide +kernel
theorem zak7 : Nd "NoFloor" := by decide +kernel
theorem zaoj : Nd "NoBits" := by decide +kernel
theorem zaok : Nd "NoWays" := by decide +kernel
theorem zahi : bootBuiltins "ValueError" = some (.type "ValueError") := by decide +kernel
theorem zahj : ("ValueError" : Str) ≠ "__name__" := by decide +kernel
theorem zahk : Nd "ValueError" := by decide +kernel
theorem zaol : Nd "Pack" := by decide +kernel
theorem zahl : Nd "FloorError" := by decide +kernel
theorem zaik : Nd "_law_only" := by decide +kernel
theorem av45 : AF (defScope (top 45)) ["_law_caught", "_law_kind", "_law_found"] := ⟨by decide +kernel⟩
theorem gl45 : AG (defScope (top 45)) ["isinstance", "NoNet", "NoSense", "NoText", "NoPack", "NoTables", "NoRow", "NoRoom", "OutOfFloor", "NoFloor", "NoBits", "NoWays", "len", "ValueError"] := ⟨by decide +kernel⟩
def zajm : Scope := { kind := PySem.ScopeKind.function, names := [(PySem.Str.ofString ".0", PySem.NameKind.local), (PySem.Str.ofString "_law_one", PySem.NameKind.local)], isGenerator := false, isCoroutine := false, more := [] : PySem.Scope }
theorem zaom : CompOk zajm (defScope (top 45)) (["_law_one"] : List Str) (["_law_caught", "_law_kind", "_law_found"] : List Str) [] (["_law_one"] : List Str) := compOk rfl (by decide +kernel) (by decide +kernel) (by decide +kernel) (by decide +kernel) rfl (by decide +kernel)
theorem zaon : AK (relab zajm (defScope (top 45))) ["_law_one"] := ⟨by decide +kernel⟩
theorem zaoo : AV (relab zajm (defScope (top 45))) ["_law_one"] := ⟨by decide +kernel⟩
def spOnly (CE : Addr) : Sp := fun vs H Q _ => ∃ (ea : Addr), vs = [.ref ea, .int 5] ∧ H ea = some (exO ea CE) ∧ ∀ H', Ch [] H H' → Q (.bl true) H'
theorem scOnly : FnScope ["_law_caught", "_law_kind", "_law_found"] ["_law_caught", "_law_kind"] (defScope (top 45)) := ⟨rfl, rfl, rfl, by decide +kernel, rfl, by decide +kernel, by decide +kernel⟩
theorem zasy {CE c0 c1 c2 c3 c4 c6 c7 c8 c9 c10 : Addr} (F : Fun K "_law_only" "_law_only" (top 45) f fd) (wp : WP K CE c0 c1 c2 c3 c4 c6 c7 c8 c9 c10) (m_NoText : mg "NoText" = some (.ref c0)) (m_NoSense : mg "NoSense" = some (.ref c1)) (m_NoNet : mg "NoNet" = some (.ref c2)) (m_NoRow : mg "NoRow" = some (.ref c3)) (m_NoTables : mg "NoTables" = some (.ref c4)) (m_NoPack : mg "NoPack" = some (.ref CE)) (m_NoFloor : mg "NoFloor" = some (.ref c6)) (m_OutOfFloor : mg "OutOfFloor" = some (.ref c7)) (m_NoRoom : mg "NoRoom" = some (.ref c8)) (m_NoWays : mg "NoWays" = some (.ref c9)) (m_NoBits : mg "NoBits" = some (.ref c10)) (z_isinstance : mg "isinstance" = none) (z_ValueError : mg "ValueError" = none) (z_len : mg "len" = none) : FnOk P w K mg base CX0 (k + 1) f fd ["_law_caught", "_law_kind"] (spOnly CE) := by
 have nd := scOnly.nd
 refine F.ok scOnly (fun vs H Q E h => by obtain ⟨ea, rfl, _⟩ := h; rfl) (fun cdv A outer s H vs Q E hr h => ?_)
 obtain ⟨ea, rfl, he, q⟩ := h
 refine ⟨_, (Pr.h (zaad (zaax (i := 2) nd rfl (av45.l 2 rfl) (zabz (zaaa (zaaf zab0 (gl45.g 0 rfl) z_isinstance zaai (zaaa (qv av45 0 rfl) (zaaa (zabs (v := .ref _) (gl45.g 3 rfl) m_NoText rfl zaoh) zaab)) zaaj zaak) (zaaa (zaaf zab0 (gl45.g 0 rfl) z_isinstance zaai (zaaa (qv av45 0 rfl) (zaaa (zabs (v := .ref _) (gl45.g 2 rfl) m_NoSense rfl zak6) zaab)) zaaj zaak) (zaaa (zaaf zab0 (gl45.g 0 rfl) z_isinstance zaai (zaaa (qv av45 0 rfl) (zaaa (zabs (v := .ref _) (gl45.g 1 rfl) m_NoNet rfl zaqe) zaab)) zaaj zaak) zaab zabf) zabf) zabf))) (zaad (zaax (i := 2) nd rfl (av45.l 2 rfl) (zaaz zalr (qv av45 2 rfl) (zabz (zaaa (zaaf zab0 (gl45.g 0 rfl) z_isinstance zaai (zaaa (qv av45 0 rfl) (zaaa (zabs (v := .ref _) (gl45.g 6 rfl) m_NoRow rfl zag2) zaab)) zaaj zaak) (zaaa (zaaf zab0 (gl45.g 0 rfl) z_isinstance zaai (zaaa (qv av45 0 rfl) (zaaa (zabs (v := .ref _) (gl45.g 5 rfl) m_NoTables rfl zajl) zaab)) zaaj zaak) (zaaa (zaaf zab0 (gl45.g 0 rfl) z_isinstance zaai (zaaa (qv av45 0 rfl) (zaaa (zabs (v := .ref _) (gl45.g 4 rfl) m_NoPack rfl zac2) zaab)) zaaj zaak) zaab zabf) zabf) zabf)))) (zaad (zaax (i := 2) nd rfl (av45.l 2 rfl) (zaaz zalr (qv av45 2 rfl) (zabz (zaaa (zaaf zab0 (gl45.g 0 rfl) z_isinstance zaai (zaaa (qv av45 0 rfl) (zaaa (zabs (v := .ref _) (gl45.g 9 rfl) m_NoFloor rfl zak7) zaab)) zaaj zaak) (zaaa (zaaf zab0 (gl45.g 0 rfl) z_isinstance zaai (zaaa (qv av45 0 rfl) (zaaa (zabs (v := .ref _) (gl45.g 8 rfl) m_OutOfFloor rfl zahh) zaab)) zaaj zaak) (zaaa (zaaf zab0 (gl45.g 0 rfl) z_isinstance zaai (zaaa (qv av45 0 rfl) (zaaa (zabs (v := .ref _) (gl45.g 7 rfl) m_NoRoom rfl zaoi) zaab)) zaaj zaak) zaab zabf) zabf) zabf)))) (zaad (zaax (i := 2) nd rfl (av45.l 2 rfl) (zaaz zalr (qv av45 2 rfl) (zabz (zaaa (zaaf zab0 (gl45.g 0 rfl) z_isinstance zaai (zaaa (qv av45 0 rfl) (zaaa (zabs (v := .ref _) (gl45.g 11 rfl) m_NoWays rfl zaok) zaab)) zaaj zaak) (zaaa (zaaf zab0 (gl45.g 0 rfl) z_isinstance zaai (zaaa (qv av45 0 rfl) (zaaa (zabs (v := .ref _) (gl45.g 10 rfl) m_NoBits rfl zaoj) zaab)) zaaj zaak) zaab zabf) zabf)))) (zaad (zaa5 (zab7 (zab8 (zabn (zaa6 (zaaf zab0 (gl45.g 0 rfl) z_isinstance zaai (zaaa (qv av45 0 rfl) (zaaa (zaay (v := .ty "ValueError") (gl45.g 13 rfl) z_ValueError zahi rfl zahj zahk) zaab)) zaaj zaak))) (zab3 (zaat zadr (zaaf zaan (gl45.g 12 rfl) z_len PySem.boot_len (zaaa (zaa7 rfl zaom (zabj (qv av45 2 rfl)) (fun _ _ _ _ _ => (zaap (i := 0) zaom.nd rfl (Or.inl (zaon.k 0 rfl)) (Or.inr (zaon.k 0 rfl)))) (fun _ _ _ _ _ => (zacq (zaa6 (qw zaoo 0 rfl)))) (fun _ _ _ _ _ => (qw zaoo 0 rfl))) zaab zaa0) zabc zabd) zaae (nomark _))))) (zaah (zaas zac0)) zaav) (zaah (zaas (zaar zaa4 (qv av45 2 rfl) (qv av45 1 rfl) (fun _ _ => rfl)))))))))), ?_⟩
 (try dsimp only [cxOf])
 have xa := wp.xa
 have k0 := wp.k0
 have k1 := wp.k1
 have k2 := wp.k2
 have k3 := wp.k3
 have k4 := wp.k4
 have k5 := wp.k5
 have k6 := wp.k6
 have k7 := wp.k7
 have k8 := wp.k8
 have k9 := wp.k9
 have k10 := wp.k10
 have kv := wp.kv
 walk_at "rd"
 rename_i p1 h1 p2 h2 p3 h3 p4 h4 p5 h5 p6 h6 p7 h7
 generalize hH7 : upd _ p7 _ = H7
 have c7 : Ch [] H H7 := by rw [← hH7]; walk_at "ch"
 have g7 : H7 p7 = some (.lst (only5.map V.bl)) := by rw [← hH7]; exact zaag
 clear hH7 h1 h2 h3 h4 h5 h6 h7
 refine zab4 (only5.map V.bl) (fun i ys σ H' => H' = H7 ∧ ys = ((only5.take i).filter id).map V.bl ∧ ∃ u, σ = [u]) (by rw [sizeLine_eq]; decide) ⟨rfl, rfl, _, rfl⟩ ?_ ?_ ?_
 ·rintro i ys σ H' hi ⟨rfl, rfl, _⟩
  refine ⟨?_, SqL.of g7⟩
  rw [List.length_map]
  exact Nat.le_trans (List.length_filter_le _ _) (by rw [List.length_take]; omega)
 ·rintro i ys σ H' z hz ⟨rfl, rfl, u, rfl⟩
  rw [List.getElem?_map] at hz
  obtain ⟨b, hb, rfl⟩ := Option.map_eq_some_iff.mp hz
  rw [List.take_add_one, hb, List.filter_append, List.map_append]
  cases b with
  | true => walk_at "rd"
  | false => walk_at "rd"; exact ⟨by simp, _, rfl⟩
 ·rintro ys σ H' ⟨rfl, rfl, _⟩
  intro D hD
  have g8 : (upd H' D (.lst [V.bl true])) D = some (.lst [V.bl true]) := zaag
  have g9 : (upd H' D (.lst [V.bl true])) p7 = some (.lst (only5.map V.bl)) := zabq hD g7
  have c8 : Ch [] H (upd H' D (.lst [V.bl true])) := c7.trans (Ch.new hD _)
  have e : ((only5.take (only5.map V.bl).length).filter id).map V.bl = [V.bl true] := rfl
  rw [e]
  generalize upd H' D (.lst [V.bl true]) = H8 at g8 g9 c8 ⊢
  walk_at "rd"
  exact q _ c8
theorem av48 : AF (defScope (top 48)) ["_law_ins", "_law_blocks", "_law_outs", "_law_caught", "_law_pack", "e"] := ⟨by decide +kernel⟩
theorem gl48 : AG (defScope (top 48)) ["Pack", "FloorError", "_law_only"] := ⟨by decide +kernel⟩
theorem zavt : (defScope (top 48)).names.lookup (Str.ofString "e") = some NameKind.local := by decide +kernel
def spTold (C : Addr) : Sp := fun vs H Q _ => ∃ (kd kd2 kd3 : SK) (bl ol : Addr) (ins : Nat) (bgs : List BG) (ogs : List (List V)), vs = [.int (ins : Int), .ref bl, .ref ol] ∧ AskAt kd kd2 kd3 H bl ol bgs ogs ∧
 (¬ AOk ins bgs ogs → ∀ H', Ch [] H H' → Q (.bl true) H') ∧ (AOk ins bgs ogs → ∀ x dx bt ot H', Ch [] H H' → H' x = some (.ins C dx (fldsP ins bt ot)) → PkT H' bt ot bgs ogs → Q (.ref x) H')
theorem scTold : FnScope ["_law_ins", "_law_blocks", "_law_outs", "_law_caught", "_law_pack", "e"] ["_law_ins", "_law_blocks", "_law_outs"] (defScope (top 48)) := ⟨rfl, rfl, rfl, by decide +kernel, rfl, by decide +kernel, by decide +kernel⟩
theorem zasz {C CE CF : Addr} (F : Fun K "_law_told" "_law_told" (top 48) f fd) (MkXPack : MakeOk P w K mg base (CXE P w) k C "Pack" ["self", "ins", "blocks", "outs"] (spPackX C CE)) (D_law_only : DefOk P w K mg base CX0 (k + 1) "_law_only" ["_law_caught", "_law_kind"] (spOnly CE)) (m_FloorError : mg "FloorError" = some (.ref CF)) (X_FloorError : XC K CF) (X_NoPack : XC K CE) (sub : XSub K CE CF) : FnOk P w K mg base CX0 (k + 2) f fd ["_law_ins", "_law_blocks", "_law_outs"] (spTold C) := by
 have nd := scTold.nd
 refine F.ok scTold (fun vs H Q E h => by obtain ⟨kd, kd2, kd3, bl, ol, ins, bgs, ogs, rfl, _⟩ := h; rfl) (fun cdv A outer s H vs Q E hr h => ?_)
 obtain ⟨kd, kd2, kd3, bl, ol, ins, bgs, ogs, rfl, ask, q1, q2⟩ := h
 have hrm := hr
 refine ⟨_, (Pr.h (zaad (zaax (i := 3) nd rfl (av48.l 3 rfl) zadc) (zaad (zaax (i := 4) nd rfl (av48.l 4 rfl) zadc) (zac6 (zar6 (i := 5) (fun _ _ h => h) rfl rfl rfl nd rfl zavt (gl48.g 1 rfl) m_FloorError X_FloorError (zapv (zar9 (i := 4) nd rfl (av48.l 4 rfl) (zamy (fun _ _ h => h) MkXPack hrm (gl48.g 0 rfl) (zaaa (qv av48 0 rfl) (zaaa (qv av48 1 rfl) (zaaa (qv av48 2 rfl) zaab zaac) zaac) zaac) zaol))) (fun ea => (zaah (zaax (i := 3) nd rfl (av48.l 3 rfl) (qv av48 5 rfl)))) zahl) (zaad (zaa5 (zaat zaq8 (qv av48 3 rfl) zadc (nomark _)) (zaah (zaas (zaam D_law_only hr (gl48.g 2 rfl) pass0 (zaaa (qv av48 3 rfl) (zaaa zaae zaab zaaq) zaac) zaik))) zaav) (zaah (zaas (qv av48 4 rfl)))))))), ?_⟩
 (try dsimp only [cxOf])
 walk_at "rd"
 by_cases ok : AOk ins bgs ogs
 ·have q2 := q2 ok
  refine zaeu (fun σ H' => ∃ x dx bt ot, σ = [some (.int (ins : Int)), some (.ref bl), some (.ref ol), some .non, some (.ref x), none] ∧ Ch [] H H' ∧ H' x = some (.ins C dx (fldsP ins bt ot)) ∧ PkT H' bt ot bgs ogs) ?_ ?_
  ·walk_at "rd"
   rename_i x dx hx hdx nx
   refine ⟨ask.ch (Ch.inst hx hdx nx), fun n e _ bt ot H1 c1 g1 pk => ⟨rfl, ?_⟩, fun no => absurd ok (no ins rfl)⟩
   have e : n = ins := by omega
   subst e
   exact ⟨x, dx, bt, ot, rfl, Ch.made hx hdx nx c1, g1, pk⟩
  ·rintro σ H1 ⟨x, dx, bt, ot, rfl, c1, g1, pk⟩
   walk_at "rd"
   exact q2 x dx bt ot _ c1 g1 pk
 ·have q1 := q1 ok
  clear q2
  refine zaeu (fun σ H' => ∃ ea, σ = [some (.int (ins : Int)), some (.ref bl), some (.ref ol), some (.ref ea), some .non, none] ∧ Ch [] H H' ∧ H' ea = some (exO ea CE)) ?_ ?_
  ·walk_at "rd"
   rename_i x dx hx hdx nx
   refine ⟨ask.ch (Ch.inst hx hdx nx), fun n e k => absurd (by rw [show ins = n by omega]; exact k) ok, fun _ H1 c1 => ?_⟩
   have c2 := Ch.made hx hdx nx c1
   clear c1
   walk_at "rd"
  ·rintro σ H1 ⟨ea, rfl, d1, e1⟩
   walk_at "rd"
   rename_i H2 c2
   exact q1 _ (d1.trans c2)
end
end

section
def spBt (C : Addr) : Sp := fun vs H Q _ => ∃ (knd : SK) (y dx r : Addr) (ins : Nat) (bt ot ol kd : Addr) (bs : List Bk) (os : List Src) (order : List Nat) (kv : Nat → Bool) (row : List Bool) (v : Nat → Bool), vs = [.ref y, .ref r] ∧ PlP C H y dx ins bt ot ol kd bs os order kv ∧ PlOk ins bs os order ∧ SqX knd H r (row.map bV) ∧ row.length ≤ 1000 ∧ row.length = ins ∧ Sol bs row kv v ∧
 ∀ res kd' H', Ch [y] H H' → H res = none → H kd' = none → res ≠ kd' → H' res = some (.lst ((os.map (srcV row v)).map bV)) → PlP C H' y dx ins bt ot ol kd' bs os order (nxV bs row v) → Q (.ref res) H'
theorem zas0 {C CR : Addr} : ∀ vs H Q E, spBt C vs H Q E → spBtX C CR vs H Q E0 := fun vs H Q E ⟨knd, y, dx, r, ins, bt, ot, ol, kd, bs, os, order, kv, row, v, e, p, ok, sq, l, el, so, q⟩ =>
 ⟨knd, y, dx, r, ins, bt, ot, ol, kd, bs, os, order, kv, row.map bV, e, p, ok, sq, fun x hx => by obtain ⟨b, _, rfl⟩ := List.mem_map.mp hx; exact .int _, by rw [List.length_map]; exact l, .inr ⟨row, v, rfl, el, so, q⟩⟩
def rIsC (K : PySem.W.Frag) : List V → Hp → VK → Prop := fun xs H Q => ∃ (x : V) (C : Addr) (t : Value) (b : Bool), xs = [x, .ref C] ∧ TyOf K H x t ∧ PySem.W.kitOne K t (.ref C) = some b ∧ Q (.bl b) H
theorem zaqf {X : Cx} : CallR X (.builtin "isinstance") (rIsC X.K) := by
 intro pins s σ H xs us Q I r h
 obtain ⟨x, C, t, b, rfl, ty, e, q⟩ := h
 obtain ⟨u, v, rfl, ru, rv⟩ := vals2 r
 cases rv
 exact zahq I ru ty e fun tk => ⟨.bl b, H, I.tok _, rfl, q⟩
theorem zas1 {a c : Nat} {b : Bk} (ok : b.ok a c) : bkB a c b.g = true := by
 have e : (b.ss.map sg).all (plB a c) = true := by
  rw [List.all_map]
  refine List.all_eq_true.mpr fun s hs => ?_
  have := ok.so s hs
  show plB a c [.str (wd s.1), .int (s.2 : Int)] = true
  rw [zauk, decide_eq_true (by omega), decide_eq_true (by omega)]; rfl
 have k := ok.k
 have f0 := ok.f0
 have f1 := ok.f1
 show ((decide ((b.ss.map sg).length ≤ 4) && (belB (.int b.bits) (rm (b.ss.map sg).length) && (b.ss.map sg).all (plB a c))) && (belB (.int b.kept) 2 && belB (.int b.first) (b.kept + 1))) = true
 rw [e, List.length_map, zanp ok.s4, decide_eq_true ok.s4, zadj.mpr ⟨ok.b0, ok.b1⟩, zadj.mpr ⟨by omega, by omega⟩, zadj.mpr ⟨f0, by omega⟩]
 rfl
theorem zas2 {a c : Nat} {s : Src} (h : s.2 < lim a c s.1) : plB a c (sg s) = true := by
 show plB a c [.str (wd s.1), .int (s.2 : Int)] = true
 rw [zauk, decide_eq_true (by omega), decide_eq_true (by omega)]; rfl
theorem zau1 {ins : Nat} {bs : List Bk} {os : List Src} (ok : ∀ x ∈ bs, x.ok ins bs.length) (oo : ∀ s ∈ os, s.2 < lim ins bs.length s.1) (ac : Acy (looseOf bs) (lsOf bs)) : AOk ins (bs.map Bk.g) (os.map sg) where
 b := fun x hx => by
  obtain ⟨y, hy, rfl⟩ := List.mem_map.mp hx
  rw [List.length_map]
  exact zas1 (ok y hy)
 o := fun x hx => by
  obtain ⟨y, hy, rfl⟩ := List.mem_map.mp hx
  rw [List.length_map]
  exact zas2 (oo y hy)
 a := fun bs' e => by rw [← zaj9 e]; exact ac
theorem zagi {α α' β : Type} {R : α → β → Prop} {S : α' → β → Prop} {g : α → α'} (h : ∀ x y, R x y → S (g x) y) : ∀ {xs : List α} {ys : List β}, Paired R xs ys → Paired S (xs.map g) ys
 | _, _, .nil => .nil
 | _, _, .cons a t => .cons (h _ _ a) (zagi h t)
theorem zau2 (bs : List Bool) : ScaL (bs.map bV) := ⟨fun x hx => by
 obtain ⟨b, _, rfl⟩ := List.mem_map.mp hx
 exact .inl ⟨_, rfl⟩⟩
structure RE where
 C : Addr
 a : Addr
 b : Addr
 ns : List Int
 bl : Addr
 ol : Addr
 ins : Nat
 bs : List Bk
 os : List Src
 ps : List Addr
 ops : List Addr
 bt : Addr
 ot : Addr
 y1 : Addr
 d1 : Addr
 o1 : Addr
 r1 : List Nat
 k1 : Addr
structure R0 (K : PySem.W.Frag) (e : RE) (c0 : Int) (H : Hp) : Prop where
 sc : Scr K H e.a e.ns
 lw : LwP H e.bl e.ol e.ins e.bs e.os e.ps e.ops
 pk : PkT H e.bt e.ot (e.bs.map Bk.g) (e.os.map sg)
 od : H e.o1 = some (.lst (e.r1.map nV))
 hb : H e.b = some (.lst [.int c0])
 h1 : ∃ u, H e.y1 = some (.ins e.C e.d1 u)
 hk : ∃ u, H e.k1 = some (.dK u)
 n1 : e.o1 ≠ e.b
structure RS (K : PySem.W.Frag) (e : RE) (H2 : Hp) (c : Int) (kd : Addr) (kp kl : Nat → Bool) (H : Hp) : Prop where
 ch : Ch [e.b, e.y1, e.k1] H2 H
 hb : H e.b = some (.lst [.int c])
 hy : H e.y1 = some (.ins e.C e.d1 (fldsB e.ins e.bt e.ot e.o1 kd))
 hk : H e.k1 = some (.dK (keptD e.bs kl))
 hd : H kd = some (.dK (keptD e.bs kp))
 nk : kd ≠ e.k1
section
variable {K : PySem.W.Frag} {e : RE} {H2 H H' : Hp} {c0 c c' : Int} {kd : Addr} {kp kl : Nat → Bool}
theorem R0.nin (r : R0 K e c0 H2) {p : Addr} {o : HO} (h : H2 p = some o) (hb : p ≠ e.b) (h1 : ∀ u, o ≠ .ins e.C e.d1 u) (h2 : ∀ u, o ≠ .dK u) : p ∉ [e.b, e.y1, e.k1] := by
 intro z
 simp only [List.mem_cons, List.not_mem_nil, or_false] at z
 rcases z with z | z | z
 ·exact hb z
 ·obtain ⟨u, w⟩ := r.h1; rw [z, w] at h; exact h1 u (Option.some.inj h).symm
 ·obtain ⟨u, w⟩ := r.hk; rw [z, w] at h; exact h2 u (Option.some.inj h).symm
theorem R0.tu (r : R0 K e c0 H2) (s : RS K e H2 c kd kp kl H) : Tu H2 H := fun p xs h => s.ch.get h (r.nin h (fun z => by rw [z, r.hb] at h; cases h) (fun _ z => by cases z) (fun _ z => by cases z))
theorem R0.refs (r : R0 K e c0 H2) (s : RS K e H2 c kd kp kl H) {p : Addr} {us : List Addr} (h : H2 p = some (.lst (us.map V.ref))) : H p = some (.lst (us.map V.ref)) := s.ch.get h (r.nin h (fun z => by
 rw [z, r.hb] at h
 have h := HO.lst.inj (Option.some.inj h)
 cases us with
 | nil => cases h
 | cons x y => cases h) (fun _ z => by cases z) (fun _ z => by cases z))
theorem R0.scr (r : R0 K e c0 H2) (s : RS K e H2 c kd kp kl H) : Scr K H e.a e.ns := by
 obtain ⟨l, h⟩ := r.sc
 refine ⟨l, ?_⟩
 rcases h with ⟨o, h⟩ | h
 ·exact .inl ⟨o, s.ch.get h (r.nin h (fun z => by rw [z, r.hb] at h; cases h) (fun _ z => by cases z) (fun _ z => by cases z))⟩
 ·exact .inr h
theorem R0.lwp (r : R0 K e c0 H2) (s : RS K e H2 c kd kp kl H) : LwP H e.bl e.ol e.ins e.bs e.os e.ps e.ops :=
 ⟨r.refs s r.lw.hbl, zaal (fun t p (z : BgAt .list H2 t.g p) => by
  obtain ⟨lp, sps, h, q, w⟩ := z
  exact ⟨lp, sps, r.tu s _ _ h, r.refs s q, zaal (fun _ _ e => PgAt.tu (r.tu s) e) w⟩) r.lw.hbs, r.refs s r.lw.hol, zaal (fun _ _ e => PgAt.tu (r.tu s) e) r.lw.hos, r.lw.ok, r.lw.oo, r.lw.lb, r.lw.lo⟩
theorem R0.pl1 (r : R0 K e c0 H2) (s : RS K e H2 c kd kp kl H) : PlP e.C H e.y1 e.d1 e.ins e.bt e.ot e.o1 kd e.bs e.os e.r1 kp :=
 ⟨s.hy, r.pk.tu (r.tu s), s.ch.get r.od (r.nin r.od r.n1 (fun _ z => by cases z) (fun _ z => by cases z)), s.hd⟩
theorem RS.new (s : RS K e H2 c kd kp kl H) (d : Ch [] H H') : RS K e H2 c kd kp kl H' := ⟨s.ch.trans d.wk, d.get s.hb (by simp), d.get s.hy (by simp), d.get s.hk (by simp), d.get s.hd (by simp), s.nk⟩
theorem RS.bump (s : RS K e H2 c kd kp kl H) (d : Ch [e.b] H H') (h : H' e.b = some (.lst [.int c'])) : RS K e H2 c' kd kp kl H' :=
 ⟨s.ch.trans (d.mono (fun x hx => by simp at hx; simp [hx])), h, d.get s.hy (by have := zabl s.hy s.hb (by intro z; cases z); simpa using this), d.get s.hk (by have := zabl s.hk s.hb (by intro z; cases z); simpa using this), d.get s.hd (by have := zabl s.hd s.hb (by intro z; cases z); simpa using this), s.nk⟩
theorem RS.law (s : RS K e H2 c kd kp kl H) {kl' : Nat → Bool} (d : Ch [e.k1] H H') (h : H' e.k1 = some (.dK (keptD e.bs kl'))) : RS K e H2 c kd kp kl' H' :=
 ⟨s.ch.trans (d.mono (fun x hx => by simp at hx; simp [hx])), d.get s.hb (by have := zabl s.hb s.hk (by intro z; cases z); simpa using this), d.get s.hy (by have := zabl s.hy s.hk (by intro z; cases z); simpa using this), h, d.get s.hd (by simpa using s.nk), s.nk⟩
theorem RS.beat (s : RS K e H2 c kd kp kl H) {kd' : Addr} {kp' : Nat → Bool} (d : Ch [e.y1] H H') (f : H kd' = none) (p : PlP e.C H' e.y1 e.d1 e.ins e.bt e.ot e.o1 kd' e.bs e.os e.r1 kp') : RS K e H2 c kd' kp' kl H' :=
 ⟨s.ch.trans (d.mono (fun x hx => by simp at hx; simp [hx])), d.get s.hb (by have := zabl s.hb s.hy (by intro z; cases z); simpa using this), p.ob, d.get s.hk (by have := zabl s.hk s.hy (by intro z; cases z); simpa using this), p.kd, (zaao s.hk f).symm⟩
end
end

section
structure OB (H H' : Hp) (i : Nat) (ys : List V) : Prop where
 ch : Ch [] H H'
 ex : ∃ qs, ys = qs.map V.ref ∧ Paired (PgAt H') (((List.range i).map fun n => ((true, n) : Src)).map sg) qs
structure RG (bs : List Bk) (i : Nat) (l : List Nat) : Prop where
 le : l.length ≤ i
 of : ∀ n ∈ l, n ∈ looseOf bs ∧ Rc (lsOf bs) n n
 to : ∀ n, n < i → n ∈ looseOf bs → Rc (lsOf bs) n n → n ∈ l
section
variable {P : Program} {w : World} {K : PySem.W.Frag} {mg : Str → Option Value} {base : Heap} {f : Addr} {fd : FuncData} {k : Nat}
local macro_rules | `(tactic| walk_at "user") => `(tactic| first
 | (apply zabv; (focus walk_at "get"); (focus with_reducible assumption)))
theorem zad8 : Nd "_law_any_blocks" := by decide +kernel
theorem zad9 : Nd "_law_comes_back" := by decide +kernel
theorem zail : Nd "_law_told" := by decide +kernel
theorem zahm : Nd "PackPlayer" := by decide +kernel
theorem zaf7 : Nd "_law_firsts" := by decide +kernel
theorem zaep : Nd "_law_some_bits" := by decide +kernel
theorem zaim : Nd "_law_beat" := by decide +kernel
theorem zaop : bootBuiltins "sorted" = some (.builtin "sorted") := by decide +kernel
theorem zaoq : ("sorted" : Str) ≠ "__name__" := by decide +kernel
theorem zaor : Nd "sorted" := by decide +kernel
theorem av49 : AF (defScope (top 49)) ["_law_script", "_law_at", "_law_m", "_law_ins", "_law_many", "_law_blocks", "_law_outs", "_law_rings", "_law_pack", "_law_player", "_law_kept", "_law_k", "_law_row"] := ⟨by decide +kernel⟩
theorem gl49 : AG (defScope (top 49)) ["_law_next", "_law_any_blocks", "range", "_law_told", "len", "isinstance", "Pack", "PackPlayer", "_law_firsts", "_law_some_bits", "_law_same", "_law_beat", "list", "sorted"] := ⟨by decide +kernel⟩
def zajn : Scope := { kind := PySem.ScopeKind.function, names := [(PySem.Str.ofString ".0", PySem.NameKind.local), (PySem.Str.ofString "_law_k", PySem.NameKind.local)], isGenerator := false, isCoroutine := false, more := [] : PySem.Scope }
theorem zaos : CompOk zajn (defScope (top 49)) (["_law_k"] : List Str) (["_law_script", "_law_at", "_law_m", "_law_ins", "_law_many", "_law_blocks", "_law_outs", "_law_rings", "_law_pack", "_law_player", "_law_kept", "_law_k", "_law_row"] : List Str) [] (["_law_k"] : List Str) := compOk rfl (by decide +kernel) (by decide +kernel) (by decide +kernel) (by decide +kernel) rfl (by decide +kernel)
theorem zaot : AK (relab zajn (defScope (top 49))) ["_law_k"] := ⟨by decide +kernel⟩
theorem zas3 : AV (relab zajn (defScope (top 49))) ["_law_k"] := ⟨by decide +kernel⟩
def zahn : Scope := { kind := PySem.ScopeKind.function, names := [ (PySem.Str.ofString ".0", PySem.NameKind.local), (PySem.Str.ofString "_law_k", PySem.NameKind.local), (PySem.Str.ofString "_law_comes_back", PySem.NameKind.globalImplicit), (PySem.Str.ofString "_law_blocks", PySem.NameKind.free)], isGenerator := false, isCoroutine := false, more := [] : PySem.Scope }
theorem zaou : CompOk zahn (defScope (top 49)) (["_law_k"] : List Str) (["_law_script", "_law_at", "_law_m", "_law_ins", "_law_many", "_law_blocks", "_law_outs", "_law_rings", "_law_pack", "_law_player", "_law_kept", "_law_k", "_law_row"] : List Str) [5] (["_law_k", "_law_blocks"] : List Str) := compOk rfl (by decide +kernel) (by decide +kernel) (by decide +kernel) (by decide +kernel) rfl (by decide +kernel)
theorem zaov : AK (relab zahn (defScope (top 49))) ["_law_k"] := ⟨by decide +kernel⟩
theorem zas4 : AG (relab zahn (defScope (top 49))) ["_law_comes_back"] := ⟨by decide +kernel⟩
theorem zaf1 : AV (relab zahn (defScope (top 49))) ["_law_k", "_law_blocks"] := ⟨by decide +kernel⟩
def zajo : Scope := { kind := PySem.ScopeKind.function, names := [ (PySem.Str.ofString ".0", PySem.NameKind.local), (PySem.Str.ofString "_law_k", PySem.NameKind.local), (PySem.Str.ofString "_law_kept", PySem.NameKind.free)], isGenerator := false, isCoroutine := false, more := [] : PySem.Scope }
theorem zaow : CompOk zajo (defScope (top 49)) (["_law_k"] : List Str) (["_law_script", "_law_at", "_law_m", "_law_ins", "_law_many", "_law_blocks", "_law_outs", "_law_rings", "_law_pack", "_law_player", "_law_kept", "_law_k", "_law_row"] : List Str) [10] (["_law_k", "_law_kept"] : List Str) := compOk rfl (by decide +kernel) (by decide +kernel) (by decide +kernel) (by decide +kernel) rfl (by decide +kernel)
theorem zaox : AK (relab zajo (defScope (top 49))) ["_law_k"] := ⟨by decide +kernel⟩
theorem zaoy : AV (relab zajo (defScope (top 49))) ["_law_k", "_law_kept"] := ⟨by decide +kernel⟩
def spRnd (K : PySem.W.Frag) : Sp := fun vs H Q _ => ∃ (a b : Addr) (ns : List Int) (c : Int), vs = [.ref a, .ref b] ∧ Scr K H a ns ∧ H b = some (.lst [.int c]) ∧ 0 ≤ c ∧ c < 2 ^ 40 ∧ ∀ c' H', DQ K H H' a b ns c' → c ≤ c' → c' ≤ c + 10000 → Q (.bl true) H'
theorem scRnd : FnScope ["_law_script", "_law_at", "_law_m", "_law_ins", "_law_many", "_law_blocks", "_law_outs", "_law_rings", "_law_pack", "_law_player", "_law_kept", "_law_k", "_law_row"] ["_law_script", "_law_at"] (defScope (top 49)) := ⟨rfl, rfl, rfl, by decide +kernel, rfl, by decide +kernel, by decide +kernel⟩
theorem zau3 {CP C : Addr} (F : Fun K "_law_round" "_law_round" (top 49) f fd) (D_law_next : DefOk P w K mg base CX0 (k + 1) "_law_next" ["_law_script", "_law_at"] (spNext K)) (D_law_any_blocks : DefOk P w K mg base CX0 (k + 1) "_law_any_blocks" ["_law_script", "_law_at", "_law_ins", "_law_many"] (spAny K)) (D_law_some_bits : DefOk P w K mg base CX0 (k + 1) "_law_some_bits" ["_law_script", "_law_at", "_law_many"] (spBits K)) (D_law_comes_back : DefOk P w K mg base CX0 (k + 1) "_law_comes_back" ["_law_blocks", "_law_start"] spCB) (D_law_told : DefOk P w K mg base CX0 (k + 1) "_law_told" ["_law_ins", "_law_blocks", "_law_outs"] (spTold CP))
  (D_law_firsts : DefOk P w K mg base CX0 (k + 1) "_law_firsts" ["_law_blocks"] spFi) (D_law_beat : DefOk P w K mg base CX0 (k + 1) "_law_beat" ["_law_blocks", "_law_outs", "_law_row", "_law_kept"] spLT) (D_law_same : DefOk P w K mg base CX0 (k + 1) "_law_same" ["_law_found", "_law_due"] (spSame 1))
  (MPackPlayer_beat : MethOk P w K mg base CX0 (k + 1) C "beat" ["self", "row"] (spBt C)) (MPackPlayer_held : MethOk P w K mg base CX0 (k + 1) C "held" ["self"] (spHd C)) (MkPackPlayer : MakeOk P w K mg base CX0 k C "PackPlayer" ["self", "pack"] (spPP CP C)) (z_range : mg "range" = none) (z_list : mg "list" = none) (z_len : mg "len" = none) (z_sorted : mg "sorted" = none) (z_isinstance : mg "isinstance" = none) (m_Pack : mg "Pack" = some (.ref CP)) (cl : Cls K CP)
  (xcl : PySem.W.findIn K (.ref CP) "__class__" = some (some (.builtin "object.__class__"))) (xsg : PySem.W.specialIn K (.builtin "object.__class__") "__get__" = some (some (.builtin "getset_descriptor.__get__"))) (xtk : PySem.W.takesIn K (.builtin "object.__class__") = some true) (xmo : PySem.W.mroIn K CP (.type "object") = some true) (wC : PySem.W.kitOne K (.ref CP) (.ref CP) = some true) :
  FnOk P w K mg base CX0 (k + 2) f fd ["_law_script", "_law_at"] (spRnd K) := by
 have nd := scRnd.nd
 refine F.ok scRnd (fun vs H Q E h => by obtain ⟨a, b, ns, c, rfl, _⟩ := h; rfl) (fun cdv A outer s H vs Q E hr h => ?_)
 obtain ⟨a, b, ns, c, rfl, hS, hb, h0, h1, q⟩ := h
 have hrm := hr
 have hu := zagk hr
 refine ⟨_, (Pr.h (zaad (zaax (i := 2) nd rfl (av49.l 2 rfl) (zaam D_law_next hr (gl49.g 0 rfl) pass0 (zaaa (qv av49 0 rfl) (zaaa (qv av49 1 rfl) zaab zaac) zaac) zab1)) (zaad (zaax (i := 3) nd rfl (av49.l 3 rfl) (zaaz zab6 (qv av49 2 rfl) zaae)) (zac6 (zaax (i := 4) nd rfl (av49.l 4 rfl) (zaaz zaeq zaae (zaaz zab6 (zaaz zac4 (qv av49 2 rfl) zaae) zaae))) (zaad (zaax (i := 5) nd rfl (av49.l 5 rfl) (zaam D_law_any_blocks hr (gl49.g 1 rfl) pass0 (zaaa (qv av49 0 rfl) (zaaa (qv av49 1 rfl) (zaaa (qv av49 3 rfl) (zaaa (qv av49 4 rfl) zaab zaac) zaac) zaac) zaac) zad8)) (zaad (zadi (i := 6) nd rfl (av49.l 6 rfl) rfl zaos (zabk (gl49.g 2 rfl) z_range (zaaa (qv av49 4 rfl) zaab zaac)) (fun _ _ _ _ _ => (zaap (i := 0) zaos.nd rfl (Or.inl (zaot.k 0 rfl)) (Or.inr (zaot.k 0 rfl)))) (fun _ _ _ _ _ => zaa9) (fun _ _ _ _ _ => (zach (zaaa zabm (zaaa (qw zas3 0 rfl) zaab zaac) zaaq))) rfl) (zaad (zadi (i := 7) nd rfl (av49.l 7 rfl) rfl zaou (zabk (gl49.g 2 rfl) z_range (zaaa (qv av49 4 rfl) zaab zaac)) (fun _ _ _ _ _ => (zaap (i := 0) zaou.nd rfl (Or.inl (zaov.k 0 rfl)) (Or.inr (zaov.k 0 rfl)))) (fun _ _ _ _ _ => (zacq (zab7 (zafb (zaat zacs (zaar (zacj K rfl) (zaar (zacn K rfl) (qw zaf1 1 rfl) (qw zaf1 0 rfl) (fun _ _ => rfl)) zaae (fun _ _ => rfl)) zaae (nomark _)) (zae1 (zaa6 (zaam D_law_comes_back hr (zas4.g 0 rfl) pass0 (zaaa (qw zaf1 1 rfl) (zaaa (qw zaf1 0 rfl) zaab zaac) zaac) zad9))))))) (fun _ _ _ _ _ => (qw zaf1 0 rfl)) rfl) (zaad (zaax (i := 8) nd rfl (av49.l 8 rfl) (zaam D_law_told hr (gl49.g 3 rfl) pass0 (zaaa (qv av49 3 rfl) (zaaa (qv av49 5 rfl) (zaaa (qv av49 6 rfl) zaab zaac) zaac) zaac) zail)) (zaad (zaa5 (zaat zakf (zaaf zaan (gl49.g 4 rfl) z_len PySem.boot_len (zaaa (qv av49 7 rfl) zaab zaac) zabc zabd) zaae (nomark _)) (zaah (zaas (zabt zauj (qv av49 8 rfl) zac0 (nomark _)))) zaav) (zaad (zaa5 (zabn (zaa6 (zaaf zaqf (gl49.g 5 rfl) z_isinstance zaai (zaaa (qv av49 8 rfl) (zaaa (zabs (v := .ref _) (gl49.g 6 rfl) m_Pack rfl zaol) zaab)) zaaj zaak))) (zaah (zaas zac0)) zaav) (zaad (zaax (i := 9) nd rfl (av49.l 9 rfl) (zamb MkPackPlayer hrm (gl49.g 7 rfl) pass0 (zaaa (qv av49 8 rfl) zaab zaac) zahm)) (zaad (zaax (i := 10) nd rfl (av49.l 10 rfl) (zaam D_law_firsts hr (gl49.g 8 rfl) pass0 (zaaa (qv av49 5 rfl) zaab zaac) zaf7)) (zaad (zabp PassesOwn.never rfl (zabk (gl49.g 2 rfl) z_range (zaaa zaae zaab zaaq)) (zaap (i := 11) nd rfl (av49.l 11 rfl)) (zaad (zaax (i := 12) nd rfl (av49.l 12 rfl) (zaam D_law_some_bits hr (gl49.g 9 rfl) pass0 (zaaa (qv av49 0 rfl) (zaaa (qv av49 1 rfl) (zaaa (qv av49 3 rfl) zaab zaac) zaac) zaac) zaep)) (zaah (zaa5 (zabn (zaa6 (zaam D_law_same hr (gl49.g 10 rfl) pass0 (zaaa (zama (qv av49 9 rfl) MPackPlayer_beat hr pass0 (zaaa (zabe zaet (gl49.g 12 rfl) z_list zacu (zaaa (qv av49 12 rfl) zaab zaac) zacv zacw) zaab zabf)) (zaaa (zaam D_law_beat hr (gl49.g 11 rfl) pass0 (zaaa (qv av49 5 rfl) (zaaa (qv av49 6 rfl) (zaaa (qv av49 12 rfl) (zaaa (qv av49 10 rfl) zaab zaac) zaac) zaac) zaac) zaim) zaab zabf) zabf) zacf))) (zaah (zaas zac0)) zaav)))) (zaah (zaas (zabt (zauf hr.units) (zakt (qv av49 9 rfl) MPackPlayer_held hr pass0) (zaa7 rfl zaow (zabj (zaaf (zah8 rfl) (gl49.g 13 rfl) z_sorted zaop (zaaa (qv av49 10 rfl) zaab zaac) zaoq zaor)) (fun _ _ _ _ _ => (zaap (i := 0) zaow.nd rfl (Or.inl (zaox.k 0 rfl)) (Or.inr (zaox.k 0 rfl)))) (fun _ _ _ _ _ => zaa9) (fun _ _ _ _ _ => (zabi hu (qw zaoy 1 rfl) (qw zaoy 0 rfl) (fun _ _ => rfl)))) (nomark _))))))))))))))))), ?_⟩
 (try dsimp only [cxOf])
 have bx : Box (Scr K H a ns) := ⟨hS⟩
 clear hS
 walk_at "rd"
 refine ⟨bx.h, hb, by omega, by omega, fun m H1 m0 m1 c1 b1 => ?_⟩
 have d1 : DQ K H H1 a b ns (c + 1) := ⟨c1, bx.h.ch hb c1, b1⟩
 walk_at "rd"
 refine zaeu (fun σ H' => ∃ ins many : Nat, σ = [some (.ref a), some (.ref b), some (.int m), some (.int (ins : Int)), some (.int (many : Int)), none, none, none, none, none, none, none, none] ∧ H' = H1 ∧ ins ≤ 3 ∧ many ≤ 7 ∧ 1 ≤ many) ?_ ?_
 ·obtain ⟨ins, ei1, i20⟩ : ∃ n : Nat, m % 4 = (n : Int) ∧ n ≤ 3 := ⟨(m % 4).toNat, by omega, by omega⟩
  obtain ⟨many, en1, m20, mp⟩ : ∃ n : Nat, 1 + m / 4 % 7 = (n : Int) ∧ n ≤ 7 ∧ 1 ≤ n := ⟨(1 + m / 4 % 7).toNat, by omega, by omega, by omega⟩
  dsimp only
  rw [ei1]
  walk_at "rd"
  dsimp only
  rw [en1]
  exact ⟨rfl, rfl, i20, m20, mp⟩
 rintro σ HX ⟨ins, many, rfl, rfl, i20, m20, mp⟩
 walk_at "rd"
 refine ⟨d1.hS, d1.hb, by omega, by omega, by omega, mp, by omega, fun bl bs H2 ab lb => ?_⟩
 obtain ⟨c2, d2, c2a, c2b⟩ := ab.d
 have hb2 := d2.hb
 have d02 := d1.trans d2
 obtain ⟨bps, hbl, bbL⟩ := ab.tb
 have bb : Paired (BkAt .list H2) bs bps := zaal (fun _ _ z => z.at_) bbL
 have okk := ab.ok
 clear bbL d1 c1 b1 bx d2
 walk_at "rd"
 refine zadh (fun i ys σ H' => OB H2 H' i ys ∧ ∃ u, σ = [u]) (by rw [sizeLine_eq]; omega) ⟨⟨Ch.refl _ _, [], rfl, .nil⟩, _, rfl⟩ ?_ ?_ ?_
 ·rintro i ys σ H' hi ⟨⟨_, qs, rfl, ws⟩, _⟩
  have lw := Paired.length ws
  rw [List.length_map, List.length_map, List.length_range] at lw
  rw [List.length_map]
  omega
 ·rintro i ys σ H' hi ⟨⟨ch, qs, rfl, ws⟩, u, rfl⟩
  walk_at "rd"
  rename_i T hT
  refine ⟨⟨ch.trans (Ch.new hT _), qs ++ [T], by simp, ?_⟩, _, rfl⟩
  rw [List.range_succ, List.map_append, List.map_append]
  refine zaca (zaux (x := (true, i)) ?_) (zaal (fun _ _ e => PgAt.tu (Tu.new _ hT) e) ws)
  rw [zaag, Int.zero_add]
  rfl
 rintro ys σ H3 ⟨⟨c3, qs, rfl, ws⟩, _⟩
 intro ol hol
 have gol : (upd H3 ol (.lst (qs.map V.ref))) ol = some (.lst (qs.map V.ref)) := zaag
 have c23 : Ch [] H2 (upd H3 ol (.lst (qs.map V.ref))) := c3.trans (Ch.new hol _)
 have oo : Paired (PgAt (upd H3 ol (.lst (qs.map V.ref)))) (((List.range many).map fun n => ((true, n) : Src)).map sg) qs := by
  rw [Int.toNat_natCast] at ws
  exact zaal (fun _ _ e => PgAt.tu (Tu.new _ hol) e) ws
 show tSeq _ _ _ _ (upd H3 ol (.lst (qs.map V.ref)))
 generalize upd H3 ol (.lst (qs.map V.ref)) = H4 at gol c23 oo ⊢
 clear ws c3 hol
 generalize hos : (List.range many).map (fun n => ((true, n) : Src)) = os at oo
 have los : os.length = many := by rw [← hos, List.length_map, List.length_range]
 have oos : ∀ s ∈ os, s.2 < lim ins bs.length s.1 := by
  rw [← hos]
  intro s hs
  obtain ⟨n, hn, rfl⟩ := List.mem_map.mp hs
  rw [lb]
  exact List.mem_range.mp hn
 have hbl4 := c23.get hbl (by simp)
 have bb4 : Paired (BkAt .list H4) bs bps := zaal (fun _ _ e => BgAt.ch c23 e) bb
 have lbp := Paired.length bb4
 walk_at "rd"
 refine zadh (fun i ys σ H' => Ch [] H4 H' ∧ (∃ l, ys = l.map nV ∧ RG bs i l) ∧ ∃ u, σ = [u, some (.ref bl)]) (by rw [sizeLine_eq]; omega) ⟨Ch.refl _ _, ⟨[], rfl, ⟨by simp, by simp, fun n h => by omega⟩⟩, _, rfl⟩ ?_ ?_ ?_
 ·rintro i ys σ H' hi ⟨_, ⟨l, rfl, rg⟩, _⟩
  rw [List.length_map]
  exact rg.le
 ·rintro i ys σ H' hi ⟨ch, ⟨l, rfl, rg⟩, u, rfl⟩
  have hi : i < bs.length := by have : i < (many : Int).toNat := hi; omega
  obtain ⟨pb, b1, e1, e2, ⟨lpp, _, hp0, _⟩⟩ := zaf6 bb4 i hi
  rw [Int.zero_add]
  have hp1 := ch.get hp0 (by simp)
  have hb1 := ch.get hbl4 (by simp)
  have lo := zadm e2
  walk_at "rd"
  refine ite2 (fun hc => ?_) (fun hc => ?_)
  ·have hk : b1.kept = 0 := by simpa using hc
   have il : i ∈ looseOf bs := List.mem_filter.mpr ⟨List.mem_range.mpr hi, by rw [lo, hk]; rfl⟩
   have bb1 : Paired (BkAt .list H') bs bps := zaal (fun _ _ e => BgAt.ch ch e) bb4
   have b40 : bs.length ≤ 40 := by omega
   walk_at "rd"
   rename_i r H8 c8 hr8
   refine ite2 (fun hc => ?_) (fun hc => ?_)
   ·refine ⟨_, rfl, ch.trans c8, ⟨l ++ [i], by rw [List.map_append]; rfl, ⟨by rw [List.length_append, List.length_singleton]; have := rg.le; omega, fun n hn => ?_, fun n hn z w => ?_⟩⟩, _, rfl⟩
    ·rcases List.mem_append.mp hn with z | z
     ·exact rg.of n z
     ·rw [List.mem_singleton.mp z]; exact ⟨il, hr8.mp hc⟩
    ·by_cases e : n = i
     ·simp [e]
     ·exact List.mem_append_left _ (rg.to n (by omega) z w)
   ·exact ⟨ch.trans c8, ⟨l, rfl, ⟨by have := rg.le; omega, rg.of, fun n hn z w => rg.to n (by
     by_cases e : n = i
     ·exact absurd (hr8.mpr (by rw [← e]; exact w)) hc
     ·omega) z w⟩⟩, _, rfl⟩
  ·have hk : b1.kept ≠ 0 := by simpa using hc
   have il : i ∉ looseOf bs := fun z => by
    have := (List.mem_filter.mp z).2
    rw [lo] at this
    exact hk (by simpa using this)
   exact ⟨ch, ⟨l, rfl, ⟨by have := rg.le; omega, rg.of, fun n hn z w => rg.to n (by
    by_cases e : n = i
    ·exact absurd (by rw [← e]; exact z) il
    ·omega) z w⟩⟩, _, rfl⟩
 rintro ys σ H5 ⟨c45, ⟨l, rfl, rg⟩, _⟩
 intro rl hrl
 have c46 : Ch [] H4 (upd H5 rl (.lst (l.map nV))) := c45.trans (Ch.new hrl _)
 have grl : (upd H5 rl (.lst (l.map nV))) rl = some (.lst (l.map nV)) := zaag
 show tSeq _ _ _ _ (upd H5 rl (.lst (l.map nV)))
 generalize upd H5 rl (.lst (l.map nV)) = H6 at c46 grl ⊢
 clear c45 hrl
 have hbl6 := c46.get hbl4 (by simp)
 have bb6 : Paired (BkAt .list H6) bs bps := zaal (fun _ _ e => BgAt.ch c46 e) bb4
 have hol6 := c46.get gol (by simp)
 have oo6 : Paired (PgAt H6) (os.map sg) qs := zaal (fun _ _ e => PgAt.tu (Tu.same c46) e) oo
 have ask : AskAt .list .list .list H6 bl ol (bs.map Bk.g) (os.map sg) := ⟨⟨bps, hbl6, zagi (R := BkAt .list H6) (S := BgAt .list H6) (g := Bk.g) (fun _ _ z => z) bb6⟩, ⟨qs, hol6, oo6⟩, by rw [List.length_map]; omega, by rw [List.length_map]; omega⟩
 have rg := (by rwa [Int.toNat_natCast] at rg : RG bs many l)
 have c26 := c23.trans c46
 clear bb4 hbl4 gol oo c23 c46
 have bx : Box (AskAt .list .list .list H6 bl ol (bs.map Bk.g) (os.map sg)) := ⟨ask⟩
 clear ask
 walk_at "rd"
 have lsl : ∀ n s, s ∈ lsOf bs n → s ∈ looseOf bs := fun n s h => zae2 h ins okk
 refine ⟨bx.h, fun no H7 c7 => ?_, fun aok x dx bt ot H7 c7 hx7 pk7 => ?_⟩
 ·have grl7 := c7.get grl (by simp)
  have hl : l ≠ [] := by
   rintro rfl
   refine no (zau1 okk oos (zaui lsl fun n hn w => ?_))
   have := rg.to n (by have := zady hn; omega) hn w
   cases this
  walk_at "rd"
  refine ite2 (fun hc => ?_) (fun hc => ?_)
  ·walk_at "rd"
   exact q c2 _ (d02.new (c26.trans c7)) (by omega) (by omega)
  ·exfalso
   cases l with
   | nil => exact hl rfl
   | cons y l => exact hc (by simp)
 ·have grl7 := c7.get grl (by simp)
  have ac : Acy (looseOf bs) (lsOf bs) := aok.a bs rfl
  have hl : l = [] := by
   cases l with
   | nil => rfl
   | cons y l =>
    have := rg.of y (by simp)
    exact absurd this.2 (zauh ac this.1)
  subst hl
  have tyx : TyOf K H7 (.ref x) (.ref CP) := .ins hx7 cl xcl xsg xtk xmo
  clear bx rg aok
  walk_at "rd"
  rename_i y1 dy1 hy1 hdy1 ny1
  have i2 := Ch.inst (C := C) hy1 hdy1 ny1
  refine ⟨i2.get hx7 (by simp), pk7.tu (Tu.same i2), okk, by omega, fun o1 e1 r1 H8 c8 f8 g8 kh1 pl8 => ⟨rfl, ?_⟩⟩
  have c78 : Ch [] H7 H8 := Ch.made hy1 hdy1 ny1 c8
  have fo1 : H7 o1 = none := chFree i2 f8
  have c28 : Ch [] H2 H8 := (c26.trans c7).trans c78
  have hbl8 := c28.get hbl (by simp)
  have bb8 : Paired (BkAt .list H8) bs bps := zaal (fun _ _ e => BgAt.ch c28 e) bb
  have bl40 : bs.length ≤ 40 := by omega
  clear i2 c8 f8 g8 hdy1 ny1 tyx
  walk_at "rd"
  rename_i k1 HB cB fk gk
  have c2B : Ch [] H2 HB := c28.trans cB
  have c6B : Ch [] H6 HB := (c7.trans c78).trans cB
  have os40 : os.length ≤ 40 := by omega
  obtain ⟨e, ee⟩ : ∃ e : RE, e = ⟨C, a, b, ns, bl, ol, ins, bs, os, bps, qs, bt, ot, y1, dy1, o1, r1, k1⟩ := ⟨_, rfl⟩
  have R : R0 K e c2 HB := by
   subst ee
   exact ⟨(d02.new c2B).hS, ⟨c2B.get hbl (by simp), zaal (fun _ _ e => BgAt.ch c2B e) bb, c6B.get hol6 (by simp), zaal (fun _ _ e => PgAt.tu (Tu.same c6B) e) oo6, okk, oos, bl40, os40⟩, pl8.pk.tu (Tu.same cB), cB.get pl8.od (by simp), c2B.get hb2 (by simp), ⟨_, cB.get pl8.ob (by simp)⟩, ⟨_, gk⟩, (zaao ((c26.trans c7).get hb2 (by simp)) fo1).symm⟩
  have S : RS K e HB c2 e1 (fsB bs) (fsB bs) HB := by
   subst ee
   exact ⟨Ch.refl _ _, c2B.get hb2 (by simp), cB.get pl8.ob (by simp), gk, cB.get pl8.kd (by simp), zaao pl8.kd fk⟩
  have po1 : PlOk ins bs os r1 := ⟨okk, oos, kh1, kh1.all ac, by omega, by omega⟩
  obtain ⟨hrk, rk40⟩ := zavq kh1 (kh1.all ac) (by omega)
  have sol := fun row kv => zauw okk ac row kv
  have dB : DQ K H HB a b ns c2 := d02.new c2B
  have eb : e.b = b := by rw [ee]
  have pl1 : ∀ {c kd kp kl H}, RS K e HB c kd kp kl H → PlP C H y1 dy1 ins bt ot o1 kd bs os r1 kp := by
   subst ee; exact fun s => R.pl1 s
  have lwp : ∀ {c kd kp kl H}, RS K e HB c kd kp kl H → LwP H bl ol ins bs os bps qs := by
   subst ee; exact fun s => R.lwp s
  have scr : ∀ {c kd kp kl H}, RS K e HB c kd kp kl H → Scr K H a ns := by
   subst ee; exact fun s => R.scr s
  have hkk : ∀ {c kd kp kl H}, RS K e HB c kd kp kl H → H k1 = some (.dK (keptD bs kl)) := by
   subst ee; exact fun s => s.hk
  have hbb : ∀ {c kd kp kl H}, RS K e HB c kd kp kl H → H b = some (.lst [.int c]) := by
   subst ee; exact fun s => s.hb
  have lawS : ∀ {c kd kp kl H H' kl'}, RS K e HB c kd kp kl H → Ch [k1] H H' → H' k1 = some (.dK (keptD bs kl')) → RS K e HB c kd kp kl' H' := by
   subst ee; exact fun s d h => s.law d h
  have beatS : ∀ {c kd kp kl H H' kd' kp'}, RS K e HB c kd kp kl H → Ch [y1] H H' → H kd' = none → PlP C H' y1 dy1 ins bt ot o1 kd' bs os r1 kp' → RS K e HB c kd' kp' kl H' := by
   subst ee; exact fun s d f p => s.beat d f p
  have y10 : H y1 = none := (d02.new (c26.trans c7)).free hy1
  have k10 : H k1 = none := (d02.new c28).free fk
  have dqe : ∀ {c kd kp kl H'}, RS K e HB c kd kp kl H' → DQ K H H' a b ns c := by
   intro c kd kp kl H' s
   refine ⟨fun p o h n => ?_, scr s, hbb s⟩
   have z := dB.ch p o h n
   subst ee
   exact s.ch.get z (by
    have a1 : p ≠ y1 := fun w => by rw [w, y10] at h; cases h
    have a2 : p ≠ k1 := fun w => by rw [w, k10] at h; cases h
    simp at n
    simp [n, a1, a2])
  clear bb8 hbl8 bb6 hbl6 oo6 hol6 pl8 pk7 hx7 grl grl7 hbl bb hb2 gk
  refine zacl (fun i σ H' => ∃ (c' : Int) (kd : Addr) (kv : Nat → Bool) (u11 u12 : Option V), σ = [some (.ref a), some (.ref b), some (.int m), some (.int (ins : Int)), some (.int (many : Int)), some (.ref bl), some (.ref ol), some (.ref rl), some (.ref x), some (.ref y1), some (.ref k1), u11, u12] ∧ RS K e HB c' kd kv kv H' ∧ CI c' c2 (300 * i)) ⟨c2, e1, fsB bs, _, _, rfl, S, ⟨by omega, by omega⟩⟩ ?_ ?_
  ·clear S R
   rintro i σ H' hi ⟨c', kd, kv, u11, u12, rfl, s1, ci⟩
   have hi5 : i < 5 := hi
   have ci0 := ci.lo
   have ci1 := ci.hi
   have hb9 := hbb s1
   have bx9 : Box (Scr K H' a ns) := ⟨scr s1⟩
   walk_at "rd"
   refine ⟨bx9.h, hb9, by omega, by omega, by omega, fun rw row HA sb lrow => ?_⟩
   obtain ⟨⟨cA, dA, cAa, cAb⟩, rl0, grw⟩ := sb
   have sA : RS K e HB cA kd kv kv HA := s1.bump (by rw [eb]; exact dA.ch) (by rw [eb]; exact dA.hb)
   obtain ⟨v, so⟩ := sol row kv
   clear bx9 hb9 dA s1 rl0
   have lr20 : row.length ≤ 1000 := by omega
   have hyA := (pl1 sA).ob
   have nb : List.lookup (Str.ofString "beat") (fldsB ins bt ot o1 kd) = none := rfl
   walk_at "rd"
   rename_i gv hgv
   have cg : Ch [] HA (upd HA gv (.lst (row.map bV))) := Ch.new hgv _
   have ggv : (upd HA gv (.lst (row.map bV))) gv = some (.lst (row.map bV)) := zaag
   have sC := sA.new cg
   have grw2 := cg.get grw (by simp)
   generalize upd HA gv (.lst (row.map bV)) = HC at cg ggv sC grw2 ⊢
   refine ⟨pl1 sC, po1, (show SqX .list HC gv (row.map bV) from ggv), lr20, lrow, so, fun res kd' HF cF res0 kd0 nrk gres plF => ?_⟩
   have sF := beatS sC cF kd0 plF
   have hyC := (pl1 sC).ob
   have rwF : HF rw = some (.lst (row.map bV)) := cF.get grw2 (by have := zabl grw2 hyC (by intro z; cases z); simpa using this)
   clear cg ggv grw2 sC sA hgv cF res0 kd0 plF hyC hyA grw nrk
   walk_at "rd"
   refine ⟨lwp sF, rwF, lrow, hkk sF, so, hrk, rk40, fun du HD cD du0 gdu hk1 => ?_⟩
   have sD := lawS sF cD hk1
   have kF := hkk sF
   have resD := cD.get gres (by have := zabl gres kF (by intro z; cases z); simpa using this)
   have lo1 : (os.map (srcV row v)).length ≤ 1000 := by rw [List.length_map]; omega
   clear rwF gres kF cD hk1 sF du0
   walk_at "rd"
   rename_i HG cG
   exact ⟨sD.new cG, ⟨by omega, by omega⟩⟩
  ·rintro σ H' ⟨c', kd, kv, u11, u12, rfl, s1, ci⟩
   have ci0 := ci.lo
   have ci1 := ci.hi
   have pl9 := pl1 s1
   have hy9 := pl9.ob
   have nh : List.lookup (Str.ofString "held") (fldsB ins bt ot o1 kd) = none := rfl
   walk_at "rd"
   rename_i r H1 c1 r0 hr1
   have kl := zad2 bs
   refine ⟨hkk (s1.new c1), (show _ = ((keptOf bs).map fun n : Nat => (n : Int)).map Sum.inl by unfold keptD wD; rw [List.map_map, List.map_map]; rfl), (by rw [List.length_map]; omega), ?_, fun so hso => ?_⟩
   ·exact List.pairwise_map.mpr ((List.pairwise_lt_range.filter _).imp fun h => by omega)
   have sH := s1.new c1
   have c2' : Ch [] H1 (upd H1 so (.lst (((keptOf bs).map fun n : Nat => (n : Int)).map V.int))) := Ch.new hso _
   have so2 : (upd H1 so (.lst (((keptOf bs).map fun n : Nat => (n : Int)).map V.int))) so = some (.lst ((keptOf bs).map nV)) := by rw [zaag, List.map_map]; rfl
   generalize upd H1 so (.lst (((keptOf bs).map fun n : Nat => (n : Int)).map V.int)) = H2' at c2' so2 ⊢
   refine ⟨so, rfl, ⟨_, SqL.of so2⟩, ?_⟩
   have sI := sH.new c2'
   have hk3 := hkk sI
   refine zab4 ((keptOf bs).map nV) (fun i ys σ H' => H' = H2' ∧ ys = (((keptOf bs).take i).map kv).map bV ∧ ∃ u, σ = [u, some (.ref k1)]) (by rw [sizeLine_eq, List.length_map]; omega) ⟨rfl, rfl, _, rfl⟩ ?_ ?_ ?_
   ·rintro i ys σ H' hi ⟨rfl, rfl, _⟩
    refine ⟨?_, SqL.of so2⟩
    rw [List.length_map, List.length_map, List.length_take]; omega
   ·rintro i ys σ H' z hz ⟨rfl, rfl, u, rfl⟩
    rw [List.getElem?_map] at hz
    obtain ⟨n, hn, rfl⟩ := Option.map_eq_some_iff.mp hz
    have vn : valV (keptD bs kv) (.inl (n : Int)) = some (bV (kv n)) := zado (List.mem_of_getElem? hn)
    have et : (keptOf bs).take (i + 1) = (keptOf bs).take i ++ [n] := by rw [List.take_add_one, hn]; rfl
    rw [et, List.map_append, List.map_append]
    unfold nV
    walk_at "rd"
   rintro ys σ H3 ⟨rfl, rfl, _⟩
   intro D hD
   rw [List.length_map, List.take_length]
   have r3 := c2'.get hr1 (by simp)
   have r4 : (upd H3 D (.lst (((keptOf bs).map kv).map bV))) r = some (.lst (((keptOf bs).map kv).map bV)) := zabq hD r3
   have d4 : (upd H3 D (.lst (((keptOf bs).map kv).map bV))) D = some (.lst (((keptOf bs).map kv).map bV)) := zaag
   have sJ := sI.new (Ch.new hD (.lst (((keptOf bs).map kv).map bV)))
   generalize upd H3 D (.lst (((keptOf bs).map kv).map bV)) = H4' at r4 d4 sJ ⊢
   have sca : ScaL (((keptOf bs).map kv).map bV) := zau2 _
   walk_at "rd"
   rw [decide_eq_true rfl]
   have nn : ((Int.toNat 5 : Nat) : Int) = 5 := rfl
   exact q c' H4' (dqe sJ) (by omega) (by omega)
end
end

section
section
variable {P : Program} {w : World} {K : PySem.W.Frag} {mg : Str → Option Value} {base : Heap} {f : Addr} {fd : FuncData} {k : Nat}
theorem zaea : Nd "_law_round" := by decide +kernel
def spLaw (K : PySem.W.Frag) : Sp := fun vs H Q _ => ∃ (a : Addr) (ns : List Int), vs = [.ref a] ∧ Scr K H a ns ∧ ∀ H', Q (.bl true) H'
theorem av50 : AF (defScope (top 50)) ["_law_script", "_law_at"] := ⟨by decide +kernel⟩
theorem gl50 : AG (defScope (top 50)) ["_law_round"] := ⟨by decide +kernel⟩
theorem scLaw : FnScope ["_law_script", "_law_at"] ["_law_script"] (defScope (top 50)) := ⟨rfl, rfl, rfl, by decide +kernel, rfl, by decide +kernel, by decide +kernel⟩
theorem zau4 (F : Fun K "law" "law" (top 50) f fd) (D_law_round : DefOk P w K mg base CX0 k "_law_round" ["_law_script", "_law_at"] (spRnd K)) : FnOk P w K mg base CX0 (k + 1) f fd ["_law_script"] (spLaw K) := by
 have nd := scLaw.nd
 refine F.ok scLaw (fun vs H Q E h => by obtain ⟨a, ns, rfl, _⟩ := h; rfl) (fun cdv A outer s H vs Q E hr h => ?_)
 obtain ⟨a, ns, rfl, hS, q⟩ := h
 refine ⟨_, (Pr.h (zaad (zaax (i := 1) nd rfl (av50.l 1 rfl) (zabz (zaaa zaae zaab zaaq))) (zaah (zaas (zab2 (zaam D_law_round hr (gl50.g 0 rfl) pass0 (zaaa (qv av50 0 rfl) (zaaa (qv av50 1 rfl) zaab zaac) zaac) zaea) (zacg (zaam D_law_round hr (gl50.g 0 rfl) pass0 (zaaa (qv av50 0 rfl) (zaaa (qv av50 1 rfl) zaab zaac) zaac) zaea))))))), ?_⟩
 (try dsimp only [cxOf])
 have bx : Box (Scr K H a ns) := ⟨hS⟩
 clear hS
 walk_at "rd"
 rename_i b hb
 have cc : Ch [] H (upd H b (.lst [.int 0])) := Ch.new hb _
 refine ⟨bx.h.same cc, zaag, by omega, by omega, fun c' H2 d c'0 c'1 => ?_⟩
 walk_at "rd"
 refine ⟨d.hS, d.hb, by omega, by omega, fun c3 H3 d3 c30 c31 => ?_⟩
 walk_at "rd"
 exact q _
end
end

section
theorem zas5 {K : PySem.W.Frag} {C CF : Addr} (e : PySem.W.mroIn K C (.ref CF) = some true) : XSub K C CF := by
 obtain ⟨cd, a, b⟩ := Option.bind_eq_some_iff.mp e
 unfold PySem.W.clsIn at a
 split at a
 case h_2 => cases a
 case h_1 cl di cd' sl ho =>
  cases a
  unfold XSub
  rw [ho]
  split at b
  ·cases b
  ·exact Option.some.inj b
theorem zau5 {K : PySem.W.Frag} {C : Addr} {v : Value} (e : PySem.W.mroIn K C v = some true) : (PySem.W.clsIn K C).isSome = true := by
 obtain ⟨cd, a, b⟩ := Option.bind_eq_some_iff.mp e
 rw [a]
 rfl
theorem zau6 {l : PySem.W.OpenLaw} {w : World} {K : PySem.W.Frag} {h : Heap} {mg : Str → Option Value} {fa CP CY : Addr} (X : K.In h) (G : h.Ns mainGlobals mg) (hfa : mg "law" = some (.ref fa))
  {f0 : Addr} {od0 an0 : Option Addr} {sl0 : Array (Option Value)} {oc0 kV0 dc0 pm0 cd0 ct0 : Value}
  {f1 : Addr} {od1 an1 : Option Addr} {sl1 : Array (Option Value)} {oc1 kV1 dc1 pm1 cd1 ct1 : Value}
  {f2 : Addr} {od2 an2 : Option Addr} {sl2 : Array (Option Value)} {oc2 kV2 dc2 pm2 cd2 ct2 : Value}
  {f3 : Addr} {od3 an3 : Option Addr} {sl3 : Array (Option Value)} {oc3 kV3 dc3 pm3 cd3 ct3 : Value}
  {f4 : Addr} {od4 an4 : Option Addr} {sl4 : Array (Option Value)} {oc4 kV4 dc4 pm4 cd4 ct4 : Value}
  {f5 : Addr} {od5 an5 : Option Addr} {sl5 : Array (Option Value)} {oc5 kV5 dc5 pm5 cd5 ct5 : Value}
  {f6 : Addr} {od6 an6 : Option Addr} {sl6 : Array (Option Value)} {oc6 kV6 dc6 pm6 cd6 ct6 : Value}
  {f7 : Addr} {od7 an7 : Option Addr} {sl7 : Array (Option Value)} {oc7 kV7 dc7 pm7 cd7 ct7 : Value}
  {f8 : Addr} {od8 an8 : Option Addr} {sl8 : Array (Option Value)} {oc8 kV8 dc8 pm8 cd8 ct8 : Value}
  {f9 : Addr} {od9 an9 : Option Addr} {sl9 : Array (Option Value)} {oc9 kV9 dc9 pm9 cd9 ct9 : Value}
  {f10 : Addr} {od10 an10 : Option Addr} {sl10 : Array (Option Value)} {oc10 kV10 dc10 pm10 cd10 ct10 : Value}
  {f11 : Addr} {od11 an11 : Option Addr} {sl11 : Array (Option Value)} {oc11 kV11 dc11 pm11 cd11 ct11 : Value}
  {f12 : Addr} {od12 an12 : Option Addr} {sl12 : Array (Option Value)} {oc12 kV12 dc12 pm12 cd12 ct12 : Value}
  {f13 : Addr} {od13 an13 : Option Addr} {sl13 : Array (Option Value)} {oc13 kV13 dc13 pm13 cd13 ct13 : Value}
  {f14 : Addr} {od14 an14 : Option Addr} {sl14 : Array (Option Value)} {oc14 kV14 dc14 pm14 cd14 ct14 : Value}
  {f15 : Addr} {od15 an15 : Option Addr} {sl15 : Array (Option Value)} {oc15 kV15 dc15 pm15 cd15 ct15 : Value}
  {f16 : Addr} {od16 an16 : Option Addr} {sl16 : Array (Option Value)} {oc16 kV16 dc16 pm16 cd16 ct16 : Value}
  {f17 : Addr} {od17 an17 : Option Addr} {sl17 : Array (Option Value)} {oc17 kV17 dc17 pm17 cd17 ct17 : Value}
  {f18 : Addr} {od18 an18 : Option Addr} {sl18 : Array (Option Value)} {oc18 kV18 dc18 pm18 cd18 ct18 : Value}
  {f19 : Addr} {od19 an19 : Option Addr} {sl19 : Array (Option Value)} {oc19 kV19 dc19 pm19 cd19 ct19 : Value}
  {f20 : Addr} {od20 an20 : Option Addr} {sl20 : Array (Option Value)} {oc20 kV20 dc20 pm20 cd20 ct20 : Value}
  {f21 : Addr} {od21 an21 : Option Addr} {sl21 : Array (Option Value)} {oc21 kV21 dc21 pm21 cd21 ct21 : Value}
  {f22 : Addr} {od22 an22 : Option Addr} {sl22 : Array (Option Value)} {oc22 kV22 dc22 pm22 cd22 ct22 : Value}
  {f23 : Addr} {od23 an23 : Option Addr} {sl23 : Array (Option Value)} {oc23 kV23 dc23 pm23 cd23 ct23 : Value}
  {f24 : Addr} {od24 an24 : Option Addr} {sl24 : Array (Option Value)} {oc24 kV24 dc24 pm24 cd24 ct24 : Value}
  {f25 : Addr} {od25 an25 : Option Addr} {sl25 : Array (Option Value)} {oc25 kV25 dc25 pm25 cd25 ct25 : Value}
  {f26 : Addr} {od26 an26 : Option Addr} {sl26 : Array (Option Value)} {oc26 kV26 dc26 pm26 cd26 ct26 : Value}
  {f27 : Addr} {od27 an27 : Option Addr} {sl27 : Array (Option Value)} {oc27 kV27 dc27 pm27 cd27 ct27 : Value}
  {f28 : Addr} {od28 an28 : Option Addr} {sl28 : Array (Option Value)} {oc28 kV28 dc28 pm28 cd28 ct28 : Value}
  {f29 : Addr} {od29 an29 : Option Addr} {sl29 : Array (Option Value)} {oc29 kV29 dc29 pm29 cd29 ct29 : Value}
  {f30 : Addr} {od30 an30 : Option Addr} {sl30 : Array (Option Value)} {oc30 kV30 dc30 pm30 cd30 ct30 : Value}
  {f31 : Addr} {od31 an31 : Option Addr} {sl31 : Array (Option Value)} {oc31 kV31 dc31 pm31 cd31 ct31 : Value}
  {f32 : Addr} {od32 an32 : Option Addr} {sl32 : Array (Option Value)} {oc32 kV32 dc32 pm32 cd32 ct32 : Value}
  {f33 : Addr} {od33 an33 : Option Addr} {sl33 : Array (Option Value)} {oc33 kV33 dc33 pm33 cd33 ct33 : Value}
  {EFloorError ENoRow ENoTables ENoPack ENoFloor EOutOfFloor ENoRoom ENoText ENoSense ENoNet ENoWays ENoBits : Addr}
  {BB : Addr} (aBB : PySem.W.nsIn K mainGlobals "BlockPlayer" = some (some (.ref BB))) (hBB : PySem.W.specialIn K (.ref BB) "__getattribute__" = some (some (.builtin "type.__getattribute__"))) (rBB : PySem.W.readsIn K BB (.type "type") = true)
  {SSILENCE : Addr} {tSILENCE0 tSILENCE1 : Tok} {nSILENCE : Nat} {slSILENCE : Array (Option Value)} (aSSILENCE : PySem.W.nsIn K mainGlobals "SILENCE" = some (some (.ref SSILENCE))) (lSSILENCE : K.lookup SSILENCE = some ⟨.type "tuple", none, .seq #[.str "none" tSILENCE0, .int 0 tSILENCE1] nSILENCE, slSILENCE⟩)
  (xc_NoRow : PySem.W.excIn K ENoRow bmV "ValueError.__new__" = true)
  (aP : PySem.W.nsIn K mainGlobals "Pack" = some (some (.ref CP)))
  (aY : PySem.W.nsIn K mainGlobals "PackPlayer" = some (some (.ref CY)))
  (eFloorError : PySem.W.nsIn K mainGlobals "FloorError" = some (some (.ref EFloorError)))
  (eNoRow : PySem.W.nsIn K mainGlobals "NoRow" = some (some (.ref ENoRow)))
  (eNoTables : PySem.W.nsIn K mainGlobals "NoTables" = some (some (.ref ENoTables)))
  (eNoPack : PySem.W.nsIn K mainGlobals "NoPack" = some (some (.ref ENoPack)))
  (eNoFloor : PySem.W.nsIn K mainGlobals "NoFloor" = some (some (.ref ENoFloor)))
  (eOutOfFloor : PySem.W.nsIn K mainGlobals "OutOfFloor" = some (some (.ref EOutOfFloor)))
  (eNoRoom : PySem.W.nsIn K mainGlobals "NoRoom" = some (some (.ref ENoRoom)))
  (eNoText : PySem.W.nsIn K mainGlobals "NoText" = some (some (.ref ENoText)))
  (eNoSense : PySem.W.nsIn K mainGlobals "NoSense" = some (some (.ref ENoSense)))
  (eNoNet : PySem.W.nsIn K mainGlobals "NoNet" = some (some (.ref ENoNet)))
  (eNoWays : PySem.W.nsIn K mainGlobals "NoWays" = some (some (.ref ENoWays)))
  (eNoBits : PySem.W.nsIn K mainGlobals "NoBits" = some (some (.ref ENoBits)))
  (a0 : PySem.W.nsIn K mainGlobals "is_whole" = some (some (.ref f0))) (l0 : K.lookup f0 = some ⟨oc0, od0, .func (PySem.W.fnOf "is_whole" "is_whole" (defArgs (top 14)) (defBody (top 14)) (defScope (top 14)) .none kV0 dc0 pm0 an0 cd0 ct0), sl0⟩) (c0 : PySem.W.codeIn K cd0 "is_whole" = true) (k0 : PySem.W.keepIn K (.ref f0) = true)
  (a1 : PySem.W.nsIn K mainGlobals "is_below" = some (some (.ref f1))) (l1 : K.lookup f1 = some ⟨oc1, od1, .func (PySem.W.fnOf "is_below" "is_below" (defArgs (top 15)) (defBody (top 15)) (defScope (top 15)) .none kV1 dc1 pm1 an1 cd1 ct1), sl1⟩) (c1 : PySem.W.codeIn K cd1 "is_below" = true) (k1 : PySem.W.keepIn K (.ref f1) = true)
  (a2 : PySem.W.nsIn K mainGlobals "is_listed" = some (some (.ref f2))) (l2 : K.lookup f2 = some ⟨oc2, od2, .func (PySem.W.fnOf "is_listed" "is_listed" (defArgs (top 16)) (defBody (top 16)) (defScope (top 16)) .none kV2 dc2 pm2 an2 cd2 ct2), sl2⟩) (c2 : PySem.W.codeIn K cd2 "is_listed" = true) (k2 : PySem.W.keepIn K (.ref f2) = true)
  (a3 : PySem.W.nsIn K mainGlobals "is_place" = some (some (.ref f3))) (l3 : K.lookup f3 = some ⟨oc3, od3, .func (PySem.W.fnOf "is_place" "is_place" (defArgs (top 17)) (defBody (top 17)) (defScope (top 17)) .none kV3 dc3 pm3 an3 cd3 ct3), sl3⟩) (c3 : PySem.W.codeIn K cd3 "is_place" = true) (k3 : PySem.W.keepIn K (.ref f3) = true)
  (a4 : PySem.W.nsIn K mainGlobals "ask_length" = some (some (.ref f4))) (l4 : K.lookup f4 = some ⟨oc4, od4, .func (PySem.W.fnOf "ask_length" "ask_length" (defArgs (top 18)) (defBody (top 18)) (defScope (top 18)) .none kV4 dc4 pm4 an4 cd4 ct4), sl4⟩) (c4 : PySem.W.codeIn K cd4 "ask_length" = true) (k4 : PySem.W.keepIn K (.ref f4) = true)
  (a5 : PySem.W.nsIn K mainGlobals "ask_values" = some (some (.ref f5))) (l5 : K.lookup f5 = some ⟨oc5, od5, .func (PySem.W.fnOf "ask_values" "ask_values" (defArgs (top 19)) (defBody (top 19)) (defScope (top 19)) .none kV5 dc5 pm5 an5 cd5 ct5), sl5⟩) (c5 : PySem.W.codeIn K cd5 "ask_values" = true) (k5 : PySem.W.keepIn K (.ref f5) = true)
  (a6 : PySem.W.nsIn K mainGlobals "ask_bits" = some (some (.ref f6))) (l6 : K.lookup f6 = some ⟨oc6, od6, .func (PySem.W.fnOf "ask_bits" "ask_bits" (defArgs (top 20)) (defBody (top 20)) (defScope (top 20)) .none kV6 dc6 pm6 an6 cd6 ct6), sl6⟩) (c6 : PySem.W.codeIn K cd6 "ask_bits" = true) (k6 : PySem.W.keepIn K (.ref f6) = true)
  (a7 : PySem.W.nsIn K mainGlobals "is_table" = some (some (.ref f7))) (l7 : K.lookup f7 = some ⟨oc7, od7, .func (PySem.W.fnOf "is_table" "is_table" (defArgs (top 22)) (defBody (top 22)) (defScope (top 22)) .none kV7 dc7 pm7 an7 cd7 ct7), sl7⟩) (c7 : PySem.W.codeIn K cd7 "is_table" = true) (k7 : PySem.W.keepIn K (.ref f7) = true)
  (a8 : PySem.W.nsIn K mainGlobals "table_bit" = some (some (.ref f8))) (l8 : K.lookup f8 = some ⟨oc8, od8, .func (PySem.W.fnOf "table_bit" "table_bit" (defArgs (top 23)) (defBody (top 23)) (defScope (top 23)) .none kV8 dc8 pm8 an8 cd8 ct8), sl8⟩) (c8 : PySem.W.codeIn K cd8 "table_bit" = true) (k8 : PySem.W.keepIn K (.ref f8) = true)
  (a9 : PySem.W.nsIn K mainGlobals "is_block" = some (some (.ref f9))) (l9 : K.lookup f9 = some ⟨oc9, od9, .func (PySem.W.fnOf "is_block" "is_block" (defArgs (top 26)) (defBody (top 26)) (defScope (top 26)) .none kV9 dc9 pm9 an9 cd9 ct9), sl9⟩) (c9 : PySem.W.codeIn K cd9 "is_block" = true) (k9 : PySem.W.keepIn K (.ref f9) = true)
  (a10 : PySem.W.nsIn K mainGlobals "loose_sources" = some (some (.ref f10))) (l10 : K.lookup f10 = some ⟨oc10, od10, .func (PySem.W.fnOf "loose_sources" "loose_sources" (defArgs (top 27)) (defBody (top 27)) (defScope (top 27)) .none kV10 dc10 pm10 an10 cd10 ct10), sl10⟩) (c10 : PySem.W.codeIn K cd10 "loose_sources" = true) (k10 : PySem.W.keepIn K (.ref f10) = true)
  (a11 : PySem.W.nsIn K mainGlobals "loose_order" = some (some (.ref f11))) (l11 : K.lookup f11 = some ⟨oc11, od11, .func (PySem.W.fnOf "loose_order" "loose_order" (defArgs (top 28)) (defBody (top 28)) (defScope (top 28)) .none kV11 dc11 pm11 an11 cd11 ct11), sl11⟩) (c11 : PySem.W.codeIn K cd11 "loose_order" = true) (k11 : PySem.W.keepIn K (.ref f11) = true)
  (a12 : PySem.W.nsIn K mainGlobals "has_ring" = some (some (.ref f12))) (l12 : K.lookup f12 = some ⟨oc12, od12, .func (PySem.W.fnOf "has_ring" "has_ring" (defArgs (top 29)) (defBody (top 29)) (defScope (top 29)) .none kV12 dc12 pm12 an12 cd12 ct12), sl12⟩) (c12 : PySem.W.codeIn K cd12 "has_ring" = true) (k12 : PySem.W.keepIn K (.ref f12) = true)
  (a13 : PySem.W.nsIn K mainGlobals "ask_pack" = some (some (.ref f13))) (l13 : K.lookup f13 = some ⟨oc13, od13, .func (PySem.W.fnOf "ask_pack" "ask_pack" (defArgs (top 30)) (defBody (top 30)) (defScope (top 30)) .none kV13 dc13 pm13 an13 cd13 ct13), sl13⟩) (c13 : PySem.W.codeIn K cd13 "ask_pack" = true) (k13 : PySem.W.keepIn K (.ref f13) = true)
  (a14 : PySem.W.nsIn K mainGlobals "block_bit" = some (some (.ref f14))) (l14 : K.lookup f14 = some ⟨oc14, od14, .func (PySem.W.fnOf "block_bit" "block_bit" (defArgs (top 33)) (defBody (top 33)) (defScope (top 33)) .none kV14 dc14 pm14 an14 cd14 ct14), sl14⟩) (c14 : PySem.W.codeIn K cd14 "block_bit" = true) (k14 : PySem.W.keepIn K (.ref f14) = true)
  (a15 : PySem.W.nsIn K mainGlobals "_law_next" = some (some (.ref f15))) (l15 : K.lookup f15 = some ⟨oc15, od15, .func (PySem.W.fnOf "_law_next" "_law_next" (defArgs (top 37)) (defBody (top 37)) (defScope (top 37)) .none kV15 dc15 pm15 an15 cd15 ct15), sl15⟩) (c15 : PySem.W.codeIn K cd15 "_law_next" = true) (k15 : PySem.W.keepIn K (.ref f15) = true)
  (a16 : PySem.W.nsIn K mainGlobals "_law_some_bits" = some (some (.ref f16))) (l16 : K.lookup f16 = some ⟨oc16, od16, .func (PySem.W.fnOf "_law_some_bits" "_law_some_bits" (defArgs (top 38)) (defBody (top 38)) (defScope (top 38)) .none kV16 dc16 pm16 an16 cd16 ct16), sl16⟩) (c16 : PySem.W.codeIn K cd16 "_law_some_bits" = true) (k16 : PySem.W.keepIn K (.ref f16) = true)
  (a17 : PySem.W.nsIn K mainGlobals "_law_same" = some (some (.ref f17))) (l17 : K.lookup f17 = some ⟨oc17, od17, .func (PySem.W.fnOf "_law_same" "_law_same" (defArgs (top 39)) (defBody (top 39)) (defScope (top 39)) .none kV17 dc17 pm17 an17 cd17 ct17), sl17⟩) (c17 : PySem.W.codeIn K cd17 "_law_same" = true) (k17 : PySem.W.keepIn K (.ref f17) = true)
  (a18 : PySem.W.nsIn K mainGlobals "_law_drawn_source" = some (some (.ref f18))) (l18 : K.lookup f18 = some ⟨oc18, od18, .func (PySem.W.fnOf "_law_drawn_source" "_law_drawn_source" (defArgs (top 40)) (defBody (top 40)) (defScope (top 40)) .none kV18 dc18 pm18 an18 cd18 ct18), sl18⟩) (c18 : PySem.W.codeIn K cd18 "_law_drawn_source" = true) (k18 : PySem.W.keepIn K (.ref f18) = true)
  (a19 : PySem.W.nsIn K mainGlobals "_law_bit" = some (some (.ref f19))) (l19 : K.lookup f19 = some ⟨oc19, od19, .func (PySem.W.fnOf "_law_bit" "_law_bit" (defArgs (top 41)) (defBody (top 41)) (defScope (top 41)) .none kV19 dc19 pm19 an19 cd19 ct19), sl19⟩) (c19 : PySem.W.codeIn K cd19 "_law_bit" = true) (k19 : PySem.W.keepIn K (.ref f19) = true)
  (a20 : PySem.W.nsIn K mainGlobals "_law_had" = some (some (.ref f20))) (l20 : K.lookup f20 = some ⟨oc20, od20, .func (PySem.W.fnOf "_law_had" "_law_had" (defArgs (top 42)) (defBody (top 42)) (defScope (top 42)) .none kV20 dc20 pm20 an20 cd20 ct20), sl20⟩) (c20 : PySem.W.codeIn K cd20 "_law_had" = true) (k20 : PySem.W.keepIn K (.ref f20) = true)
  (a21 : PySem.W.nsIn K mainGlobals "_law_beat" = some (some (.ref f21))) (l21 : K.lookup f21 = some ⟨oc21, od21, .func (PySem.W.fnOf "_law_beat" "_law_beat" (defArgs (top 43)) (defBody (top 43)) (defScope (top 43)) .none kV21 dc21 pm21 an21 cd21 ct21), sl21⟩) (c21 : PySem.W.codeIn K cd21 "_law_beat" = true) (k21 : PySem.W.keepIn K (.ref f21) = true)
  (a22 : PySem.W.nsIn K mainGlobals "_law_firsts" = some (some (.ref f22))) (l22 : K.lookup f22 = some ⟨oc22, od22, .func (PySem.W.fnOf "_law_firsts" "_law_firsts" (defArgs (top 44)) (defBody (top 44)) (defScope (top 44)) .none kV22 dc22 pm22 an22 cd22 ct22), sl22⟩) (c22 : PySem.W.codeIn K cd22 "_law_firsts" = true) (k22 : PySem.W.keepIn K (.ref f22) = true)
  (a23 : PySem.W.nsIn K mainGlobals "_law_only" = some (some (.ref f23))) (l23 : K.lookup f23 = some ⟨oc23, od23, .func (PySem.W.fnOf "_law_only" "_law_only" (defArgs (top 45)) (defBody (top 45)) (defScope (top 45)) .none kV23 dc23 pm23 an23 cd23 ct23), sl23⟩) (c23 : PySem.W.codeIn K cd23 "_law_only" = true) (k23 : PySem.W.keepIn K (.ref f23) = true)
  (a24 : PySem.W.nsIn K mainGlobals "_law_any_blocks" = some (some (.ref f24))) (l24 : K.lookup f24 = some ⟨oc24, od24, .func (PySem.W.fnOf "_law_any_blocks" "_law_any_blocks" (defArgs (top 46)) (defBody (top 46)) (defScope (top 46)) .none kV24 dc24 pm24 an24 cd24 ct24), sl24⟩) (c24 : PySem.W.codeIn K cd24 "_law_any_blocks" = true) (k24 : PySem.W.keepIn K (.ref f24) = true)
  (a25 : PySem.W.nsIn K mainGlobals "_law_comes_back" = some (some (.ref f25))) (l25 : K.lookup f25 = some ⟨oc25, od25, .func (PySem.W.fnOf "_law_comes_back" "_law_comes_back" (defArgs (top 47)) (defBody (top 47)) (defScope (top 47)) .none kV25 dc25 pm25 an25 cd25 ct25), sl25⟩) (c25 : PySem.W.codeIn K cd25 "_law_comes_back" = true) (k25 : PySem.W.keepIn K (.ref f25) = true)
  (a26 : PySem.W.nsIn K mainGlobals "_law_told" = some (some (.ref f26))) (l26 : K.lookup f26 = some ⟨oc26, od26, .func (PySem.W.fnOf "_law_told" "_law_told" (defArgs (top 48)) (defBody (top 48)) (defScope (top 48)) .none kV26 dc26 pm26 an26 cd26 ct26), sl26⟩) (c26 : PySem.W.codeIn K cd26 "_law_told" = true) (k26 : PySem.W.keepIn K (.ref f26) = true)
  (a27 : PySem.W.nsIn K mainGlobals "_law_round" = some (some (.ref f27))) (l27 : K.lookup f27 = some ⟨oc27, od27, .func (PySem.W.fnOf "_law_round" "_law_round" (defArgs (top 49)) (defBody (top 49)) (defScope (top 49)) .none kV27 dc27 pm27 an27 cd27 ct27), sl27⟩) (c27 : PySem.W.codeIn K cd27 "_law_round" = true) (k27 : PySem.W.keepIn K (.ref f27) = true)
  (a28 : PySem.W.nsIn K mainGlobals "law" = some (some (.ref f28))) (l28 : K.lookup f28 = some ⟨oc28, od28, .func (PySem.W.fnOf "law" "law" (defArgs (top 50)) (defBody (top 50)) (defScope (top 50)) .none kV28 dc28 pm28 an28 cd28 ct28), sl28⟩) (c28 : PySem.W.codeIn K cd28 "law" = true) (k28 : PySem.W.keepIn K (.ref f28) = true)
  (a29 : PySem.W.findIn K (.ref CP) "__init__" = some (some (.ref f29))) (l29 : K.lookup f29 = some ⟨oc29, od29, .func (PySem.W.fnOf "__init__" "Pack.__init__" (defArgs (inClass (top 31) 0)) (defBody (inClass (top 31) 0)) (defScope (inClass (top 31) 0)) .none kV29 dc29 pm29 an29 cd29 ct29), sl29⟩) (c29 : PySem.W.codeIn K cd29 "Pack.__init__" = true) (k29 : PySem.W.keepIn K (.ref f29) = true) (i29 : PySem.W.isFn K (.ref f29) = true)
  (a30 : PySem.W.findIn K (.ref CY) "__init__" = some (some (.ref f30))) (l30 : K.lookup f30 = some ⟨oc30, od30, .func (PySem.W.fnOf "__init__" "PackPlayer.__init__" (defArgs (inClass (top 35) 0)) (defBody (inClass (top 35) 0)) (defScope (inClass (top 35) 0)) .none kV30 dc30 pm30 an30 cd30 ct30), sl30⟩) (c30 : PySem.W.codeIn K cd30 "PackPlayer.__init__" = true) (k30 : PySem.W.keepIn K (.ref f30) = true) (i30 : PySem.W.isFn K (.ref f30) = true)
  (a31 : PySem.W.findIn K (.ref CY) "beat" = some (some (.ref f31))) (l31 : K.lookup f31 = some ⟨oc31, od31, .func (PySem.W.fnOf "beat" "BlockPlayer.beat" (defArgs (inClass (top 34) 1)) (defBody (inClass (top 34) 1)) (defScope (inClass (top 34) 1)) .none kV31 dc31 pm31 an31 cd31 ct31), sl31⟩) (c31 : PySem.W.codeIn K cd31 "BlockPlayer.beat" = true) (k31 : PySem.W.keepIn K (.ref f31) = true) (i31 : PySem.W.isFn K (.ref f31) = true)
  (a32 : PySem.W.findIn K (.ref CY) "held" = some (some (.ref f32))) (l32 : K.lookup f32 = some ⟨oc32, od32, .func (PySem.W.fnOf "held" "BlockPlayer.held" (defArgs (inClass (top 34) 2)) (defBody (inClass (top 34) 2)) (defScope (inClass (top 34) 2)) .none kV32 dc32 pm32 an32 cd32 ct32), sl32⟩) (c32 : PySem.W.codeIn K cd32 "BlockPlayer.held" = true) (k32 : PySem.W.keepIn K (.ref f32) = true) (i32 : PySem.W.isFn K (.ref f32) = true)
  (a33 : PySem.W.findCls K (.ref BB) (.type "type") "__init__" = some (.val (.ref f33))) (l33 : K.lookup f33 = some ⟨oc33, od33, .func (PySem.W.fnOf "__init__" "BlockPlayer.__init__" (defArgs (inClass (top 34) 0)) (defBody (inClass (top 34) 0)) (defScope (inClass (top 34) 0)) .none kV33 dc33 pm33 an33 cd33 ct33), sl33⟩) (c33 : PySem.W.codeIn K cd33 "BlockPlayer.__init__" = true) (k33 : PySem.W.keepIn K (.ref f33) = true)
  (pgP : PySem.W.plainGet K CP Str.empty = true) (hdP : PySem.W.hasDictIn K CP = true) (poP : PySem.W.plainOver K CP = true) (saP : PySem.W.findIn K (.ref CP) "__setattr__" = some (some (.builtin "object.__setattr__"))) (mkP : PySem.W.makesIn K CP = true) (kcP : PySem.W.keepIn K (.ref CP) = true)
  (nP_ins : PySem.W.findIn K (.ref CP) "ins" = some none)
  (nP_blocks : PySem.W.findIn K (.ref CP) "blocks" = some none)
  (nP_outs : PySem.W.findIn K (.ref CP) "outs" = some none)
  (pgY : PySem.W.plainGet K CY Str.empty = true) (hdY : PySem.W.hasDictIn K CY = true) (poY : PySem.W.plainOver K CY = true) (saY : PySem.W.findIn K (.ref CY) "__setattr__" = some (some (.builtin "object.__setattr__"))) (mkY : PySem.W.makesIn K CY = true) (kcY : PySem.W.keepIn K (.ref CY) = true)
  (nY_ins : PySem.W.findIn K (.ref CY) "ins" = some none)
  (nY_blocks : PySem.W.findIn K (.ref CY) "blocks" = some none)
  (nY_outs : PySem.W.findIn K (.ref CY) "outs" = some none)
  (nY_order : PySem.W.findIn K (.ref CY) "order" = some none)
  (nY_kept : PySem.W.findIn K (.ref CY) "kept" = some none)
  (z_len : PySem.W.nsIn K mainGlobals "len" = some none)
  (z_range : PySem.W.nsIn K mainGlobals "range" = some none)
  (z_int : PySem.W.nsIn K mainGlobals "int" = some none)
  (z_str : PySem.W.nsIn K mainGlobals "str" = some none)
  (z_isinstance : PySem.W.nsIn K mainGlobals "isinstance" = some none)
  (z_zip : PySem.W.nsIn K mainGlobals "zip" = some none)
  (z_list : PySem.W.nsIn K mainGlobals "list" = some none)
  (z_tuple : PySem.W.nsIn K mainGlobals "tuple" = some none)
  (z_dict : PySem.W.nsIn K mainGlobals "dict" = some none)
  (z_bool : PySem.W.nsIn K mainGlobals "bool" = some none)
  (z_all : PySem.W.nsIn K mainGlobals "all" = some none)
  (z_enumerate : PySem.W.nsIn K mainGlobals "enumerate" = some none)
  (z_sum : PySem.W.nsIn K mainGlobals "sum" = some none)
  (z_sorted : PySem.W.nsIn K mainGlobals "sorted" = some none)
  (z_ValueError : PySem.W.nsIn K mainGlobals "ValueError" = some none)
  (xcR : PySem.W.excIn K ENoPack bmV "ValueError.__new__" = true) (xcF : PySem.W.excIn K EFloorError bmV "ValueError.__new__" = true) (xsb : PySem.W.mroIn K ENoPack (.ref EFloorError) = some true)
  (xga : PySem.W.findIn K (.ref ENoPack) "__getattribute__" = some (some (.builtin "BaseException.__getattribute__"))) (xgt : PySem.W.findIn K (.ref ENoPack) "__getattr__" = some none) (xcl : PySem.W.findIn K (.ref ENoPack) "__class__" = some (some (.builtin "object.__class__")))
  (xsg : PySem.W.specialIn K (.builtin "object.__class__") "__get__" = some (some (.builtin "getset_descriptor.__get__"))) (xtk : PySem.W.takesIn K (.builtin "object.__class__") = some true) (xmo : PySem.W.mroIn K ENoPack (.type "object") = some true)
  (w_NoText : PySem.W.kitOne K (.ref ENoPack) (.ref ENoText) = some false)
  (w_NoSense : PySem.W.kitOne K (.ref ENoPack) (.ref ENoSense) = some false)
  (w_NoNet : PySem.W.kitOne K (.ref ENoPack) (.ref ENoNet) = some false)
  (w_NoRow : PySem.W.kitOne K (.ref ENoPack) (.ref ENoRow) = some false)
  (w_NoTables : PySem.W.kitOne K (.ref ENoPack) (.ref ENoTables) = some false)
  (w_NoPack : PySem.W.kitOne K (.ref ENoPack) (.ref ENoPack) = some true)
  (w_NoFloor : PySem.W.kitOne K (.ref ENoPack) (.ref ENoFloor) = some false)
  (w_OutOfFloor : PySem.W.kitOne K (.ref ENoPack) (.ref EOutOfFloor) = some false)
  (w_NoRoom : PySem.W.kitOne K (.ref ENoPack) (.ref ENoRoom) = some false)
  (w_NoWays : PySem.W.kitOne K (.ref ENoPack) (.ref ENoWays) = some false)
  (w_NoBits : PySem.W.kitOne K (.ref ENoPack) (.ref ENoBits) = some false)
  (w_V : PySem.W.kitOne K (.ref ENoPack) (.type "ValueError") = some true)
  (oclP : PySem.W.findIn K (.ref CP) "__class__" = some (some (.builtin "object.__class__"))) (omoP : PySem.W.mroIn K CP (.type "object") = some true) (owP : PySem.W.kitOne K (.ref CP) (.ref CP) = some true) :
  ∃ fd : FuncData, (∀ (s : Shared) (v : Value), BindsTo s fd ⟨[v], []⟩ [("_law_script", v)]) ∧ ∀ base : Heap, K.In base → base.Ns mainGlobals mg → FnOk l.prog w K mg base CX0 60 fa fd ["_law_script"] (spLaw K) := by
 have e := hfa.symm.trans (PySem.W.mg_of X G a28)
 cases e
 have F0 := zaa8 (st := top 14) l0 c0 k0
 have b0 := F0.binds (ps := ["thing"]) fun _ _ _ _ _ _ us hl => match us, hl with | [_], _ => rfl
 have m0 := PySem.W.mg_of X G a0
 have F1 := zaa8 (st := top 15) l1 c1 k1
 have b1 := F1.binds (ps := ["thing", "bound"]) fun _ _ _ _ _ _ us hl => match us, hl with | [_, _], _ => rfl
 have m1 := PySem.W.mg_of X G a1
 have F2 := zaa8 (st := top 16) l2 c2 k2
 have b2 := F2.binds (ps := ["thing"]) fun _ _ _ _ _ _ us hl => match us, hl with | [_], _ => rfl
 have m2 := PySem.W.mg_of X G a2
 have F3 := zaa8 (st := top 17) l3 c3 k3
 have b3 := F3.binds (ps := ["thing", "counts"]) fun _ _ _ _ _ _ us hl => match us, hl with | [_, _], _ => rfl
 have m3 := PySem.W.mg_of X G a3
 have F4 := zaa8 (st := top 18) l4 c4 k4
 have b4 := F4.binds (ps := ["row", "length"]) fun _ _ _ _ _ _ us hl => match us, hl with | [_, _], _ => rfl
 have m4 := PySem.W.mg_of X G a4
 have F5 := zaa8 (st := top 19) l5 c5 k5
 have b5 := F5.binds (ps := ["row", "wides"]) fun _ _ _ _ _ _ us hl => match us, hl with | [_, _], _ => rfl
 have m5 := PySem.W.mg_of X G a5
 have F6 := zaa8 (st := top 20) l6 c6 k6
 have b6 := F6.binds (ps := ["row", "length"]) fun _ _ _ _ _ _ us hl => match us, hl with | [_, _], _ => rfl
 have m6 := PySem.W.mg_of X G a6
 have F7 := zaa8 (st := top 22) l7 c7 k7
 have b7 := F7.binds (ps := ["thing", "counts"]) fun _ _ _ _ _ _ us hl => match us, hl with | [_, _], _ => rfl
 have m7 := PySem.W.mg_of X G a7
 have F8 := zaa8 (st := top 23) l8 c8 k8
 have b8 := F8.binds (ps := ["bits", "fed"]) fun _ _ _ _ _ _ us hl => match us, hl with | [_, _], _ => rfl
 have m8 := PySem.W.mg_of X G a8
 have F9 := zaa8 (st := top 26) l9 c9 k9
 have b9 := F9.binds (ps := ["thing", "counts"]) fun _ _ _ _ _ _ us hl => match us, hl with | [_, _], _ => rfl
 have m9 := PySem.W.mg_of X G a9
 have F10 := zaa8 (st := top 27) l10 c10 k10
 have b10 := F10.binds (ps := ["blocks", "number"]) fun _ _ _ _ _ _ us hl => match us, hl with | [_, _], _ => rfl
 have m10 := PySem.W.mg_of X G a10
 have F11 := zaa8 (st := top 28) l11 c11 k11
 have b11 := F11.binds (ps := ["blocks"]) fun _ _ _ _ _ _ us hl => match us, hl with | [_], _ => rfl
 have m11 := PySem.W.mg_of X G a11
 have F12 := zaa8 (st := top 29) l12 c12 k12
 have b12 := F12.binds (ps := ["blocks"]) fun _ _ _ _ _ _ us hl => match us, hl with | [_], _ => rfl
 have m12 := PySem.W.mg_of X G a12
 have F13 := zaa8 (st := top 30) l13 c13 k13
 have b13 := F13.binds (ps := ["ins", "blocks", "outs"]) fun _ _ _ _ _ _ us hl => match us, hl with | [_, _, _], _ => rfl
 have m13 := PySem.W.mg_of X G a13
 have F14 := zaa8 (st := top 33) l14 c14 k14
 have b14 := F14.binds (ps := ["block", "had"]) fun _ _ _ _ _ _ us hl => match us, hl with | [_, _], _ => rfl
 have m14 := PySem.W.mg_of X G a14
 have F15 := zaa8 (st := top 37) l15 c15 k15
 have b15 := F15.binds (ps := ["_law_script", "_law_at"]) fun _ _ _ _ _ _ us hl => match us, hl with | [_, _], _ => rfl
 have m15 := PySem.W.mg_of X G a15
 have F16 := zaa8 (st := top 38) l16 c16 k16
 have b16 := F16.binds (ps := ["_law_script", "_law_at", "_law_many"]) fun _ _ _ _ _ _ us hl => match us, hl with | [_, _, _], _ => rfl
 have m16 := PySem.W.mg_of X G a16
 have F17 := zaa8 (st := top 39) l17 c17 k17
 have b17 := F17.binds (ps := ["_law_found", "_law_due"]) fun _ _ _ _ _ _ us hl => match us, hl with | [_, _], _ => rfl
 have m17 := PySem.W.mg_of X G a17
 have F18 := zaa8 (st := top 40) l18 c18 k18
 have b18 := F18.binds (ps := ["_law_script", "_law_at", "_law_ins", "_law_blocks"]) fun _ _ _ _ _ _ us hl => match us, hl with | [_, _, _, _], _ => rfl
 have m18 := PySem.W.mg_of X G a18
 have F19 := zaa8 (st := top 41) l19 c19 k19
 have b19 := F19.binds (ps := ["_law_bits", "_law_feeds"]) fun _ _ _ _ _ _ us hl => match us, hl with | [_, _], _ => rfl
 have m19 := PySem.W.mg_of X G a19
 have F20 := zaa8 (st := top 42) l20 c20 k20
 have b20 := F20.binds (ps := ["_law_blocks", "_law_row", "_law_kept", "_law_source", "_law_known"]) fun _ _ _ _ _ _ us hl => match us, hl with | [_, _, _, _, _], _ => rfl
 have m20 := PySem.W.mg_of X G a20
 have F21 := zaa8 (st := top 43) l21 c21 k21
 have b21 := F21.binds (ps := ["_law_blocks", "_law_outs", "_law_row", "_law_kept"]) fun _ _ _ _ _ _ us hl => match us, hl with | [_, _, _, _], _ => rfl
 have m21 := PySem.W.mg_of X G a21
 have F22 := zaa8 (st := top 44) l22 c22 k22
 have b22 := F22.binds (ps := ["_law_blocks"]) fun _ _ _ _ _ _ us hl => match us, hl with | [_], _ => rfl
 have m22 := PySem.W.mg_of X G a22
 have F23 := zaa8 (st := top 45) l23 c23 k23
 have b23 := F23.binds (ps := ["_law_caught", "_law_kind"]) fun _ _ _ _ _ _ us hl => match us, hl with | [_, _], _ => rfl
 have m23 := PySem.W.mg_of X G a23
 have F24 := zaa8 (st := top 46) l24 c24 k24
 have b24 := F24.binds (ps := ["_law_script", "_law_at", "_law_ins", "_law_many"]) fun _ _ _ _ _ _ us hl => match us, hl with | [_, _, _, _], _ => rfl
 have m24 := PySem.W.mg_of X G a24
 have F25 := zaa8 (st := top 47) l25 c25 k25
 have b25 := F25.binds (ps := ["_law_blocks", "_law_start"]) fun _ _ _ _ _ _ us hl => match us, hl with | [_, _], _ => rfl
 have m25 := PySem.W.mg_of X G a25
 have F26 := zaa8 (st := top 48) l26 c26 k26
 have b26 := F26.binds (ps := ["_law_ins", "_law_blocks", "_law_outs"]) fun _ _ _ _ _ _ us hl => match us, hl with | [_, _, _], _ => rfl
 have m26 := PySem.W.mg_of X G a26
 have F27 := zaa8 (st := top 49) l27 c27 k27
 have b27 := F27.binds (ps := ["_law_script", "_law_at"]) fun _ _ _ _ _ _ us hl => match us, hl with | [_, _], _ => rfl
 have m27 := PySem.W.mg_of X G a27
 have F28 := zaa8 (st := top 50) l28 c28 k28
 have F29 := zaa8 (st := inClass (top 31) 0) l29 c29 k29
 have b29 := F29.binds (ps := ["self", "ins", "blocks", "outs"]) fun _ _ _ _ _ _ us hl => match us, hl with | [_, _, _, _], _ => rfl
 have F30 := zaa8 (st := inClass (top 35) 0) l30 c30 k30
 have b30 := F30.binds (ps := ["self", "pack"]) fun _ _ _ _ _ _ us hl => match us, hl with | [_, _], _ => rfl
 have F31 := zaa8 (st := inClass (top 34) 1) l31 c31 k31
 have b31 := F31.binds (ps := ["self", "row"]) fun _ _ _ _ _ _ us hl => match us, hl with | [_, _], _ => rfl
 have F32 := zaa8 (st := inClass (top 34) 2) l32 c32 k32
 have b32 := F32.binds (ps := ["self"]) fun _ _ _ _ _ _ us hl => match us, hl with | [_], _ => rfl
 have F33 := zaa8 (st := inClass (top 34) 0) l33 c33 k33
 have b33 := F33.binds (ps := ["self", "ins", "blocks", "outs"]) fun _ _ _ _ _ _ us hl => match us, hl with | [_, _, _, _], _ => rfl
 have z_len := PySem.W.mg_none_of X G z_len
 have z_range := PySem.W.mg_none_of X G z_range
 have z_int := PySem.W.mg_none_of X G z_int
 have z_str := PySem.W.mg_none_of X G z_str
 have z_isinstance := PySem.W.mg_none_of X G z_isinstance
 have z_zip := PySem.W.mg_none_of X G z_zip
 have z_list := PySem.W.mg_none_of X G z_list
 have z_tuple := PySem.W.mg_none_of X G z_tuple
 have z_dict := PySem.W.mg_none_of X G z_dict
 have z_bool := PySem.W.mg_none_of X G z_bool
 have z_all := PySem.W.mg_none_of X G z_all
 have z_enumerate := PySem.W.mg_none_of X G z_enumerate
 have z_sum := PySem.W.mg_none_of X G z_sum
 have z_sorted := PySem.W.mg_none_of X G z_sorted
 have z_ValueError := PySem.W.mg_none_of X G z_ValueError
 have m_FloorError := PySem.W.mg_of X G eFloorError
 have m_NoRow := PySem.W.mg_of X G eNoRow
 have m_NoTables := PySem.W.mg_of X G eNoTables
 have m_NoPack := PySem.W.mg_of X G eNoPack
 have m_NoFloor := PySem.W.mg_of X G eNoFloor
 have m_OutOfFloor := PySem.W.mg_of X G eOutOfFloor
 have m_NoRoom := PySem.W.mg_of X G eNoRoom
 have m_NoText := PySem.W.mg_of X G eNoText
 have m_NoSense := PySem.W.mg_of X G eNoSense
 have m_NoNet := PySem.W.mg_of X G eNoNet
 have m_NoWays := PySem.W.mg_of X G eNoWays
 have m_NoBits := PySem.W.mg_of X G eNoBits
 have mP := PySem.W.mg_of X G aP
 have clP : Cls K CP := ⟨pgP, hdP, poP, saP⟩
 have mY := PySem.W.mg_of X G aY
 have clY : Cls K CY := ⟨pgY, hdY, poY, saY⟩
 have mBB := PySem.W.mg_of X G aBB
 have m_SILENCE := PySem.W.mg_of X G aSSILENCE
 have X_NoRow : XC K ENoRow := xc_NoRow
 have XR : XC K ENoPack := xcR
 have XF : XC K EFloorError := xcF
 have xa : XA K ENoPack := ⟨XR, xga, xgt, xcl, xsg, xtk, xmo, zau5 xmo⟩
 have sub : XSub K ENoPack EFloorError := zas5 xsb
 refine ⟨PySem.W.fnOf "law" "law" (defArgs (top 50)) (defBody (top 50)) (defScope (top 50)) .none kV28 dc28 pm28 an28 cd28 ct28, fun s v => .of_eq rfl, fun base _ _ => ?_⟩
 have wp : WP K ENoPack ENoText ENoSense ENoNet ENoRow ENoTables ENoFloor EOutOfFloor ENoRoom ENoWays ENoBits := ⟨xa, w_NoText, w_NoSense, w_NoNet, w_NoRow, w_NoTables, w_NoPack, w_NoFloor, w_OutOfFloor, w_NoRoom, w_NoWays, w_NoBits, w_V⟩
 have sil : SilK K SSILENCE := ⟨fun H => .inr ⟨_, _, _, lSSILENCE, rfl, rfl, (by show 2 ≤ sizeLine; rw [sizeLine_eq]; decide), .cons ⟨_, rfl⟩ (.cons ⟨_, rfl⟩ .nil)⟩⟩
 have D_is_whole_1 : DefOk l.prog w K mg base CX0 1 "is_whole" ["thing"] spWholeG := ⟨f0, _, zam0 (k := 0) F0 z_isinstance z_int z_bool, b0, k0, m0⟩
 have D_is_listed_1 : DefOk l.prog w K mg base CX0 1 "is_listed" ["thing"] spListed := ⟨f2, _, zam2 (k := 0) F2 z_isinstance z_list z_tuple, b2, k2, m2⟩
 have D_is_below_2 : DefOk l.prog w K mg base CX0 2 "is_below" ["thing", "bound"] spBelowG := ⟨f1, _, zam1 (k := 1) F1 D_is_whole_1, b1, k1, m1⟩
 have D_is_place_3 : DefOk l.prog w K mg base CX0 3 "is_place" ["thing", "counts"] spPlaceG := ⟨f3, _, zam3 (k := 2) F3 D_is_below_2 z_isinstance z_tuple z_str z_len, b3, k3, m3⟩
 have D_is_table_4 : DefOk l.prog w K mg base CX0 4 "is_table" ["thing", "counts"] spTableG := ⟨f7, _, zam7 (k := 3) F7 (D_is_below_2.mono (by omega)) (D_is_listed_1.mono (by omega)) D_is_place_3 z_isinstance z_tuple z_all z_len, b7, k7, m7⟩
 have D_is_block_5 : DefOk l.prog w K mg base CX0 5 "is_block" ["thing", "counts"] spBlockG := ⟨f9, _, zam8 (k := 4) F9 (D_is_below_2.mono (by omega)) D_is_table_4 z_isinstance z_tuple z_len, b9, k9, m9⟩
 have D_loose_sources_1 : DefOk l.prog w K mg base CX0 1 "loose_sources" ["blocks", "number"] spLS := ⟨f10, _, zavg (k := 0) F10, b10, k10, m10⟩
 have D_loose_order_2 : DefOk l.prog w K mg base CX0 2 "loose_order" ["blocks"] spLO := ⟨f11, _, zavh (k := 1) F11 D_loose_sources_1 z_enumerate z_len z_dict, b11, k11, m11⟩
 have D_has_ring_3 : DefOk l.prog w K mg base CX0 3 "has_ring" ["blocks"] spRing := ⟨f12, _, zasg (k := 2) F12 D_loose_order_2 z_len, b12, k12, m12⟩
 have DX_ask_pack_6 : DefOk l.prog w K mg base (CXE l.prog w) 6 "ask_pack" ["ins", "blocks", "outs"] (spAskX ENoPack) := ⟨f13, _, zasl (k := 5) F13 (D_is_whole_1.mono (by omega)) (D_is_listed_1.mono (by omega)) D_is_block_5 (D_is_place_3.mono (by omega)) (D_has_ring_3.mono (by omega)) z_len z_all m_NoPack XR, b13, k13, m13⟩
 have TX := zap8 (k := 6) F29 clP nP_ins nP_blocks nP_outs DX_ask_pack_6 z_tuple
 have MkX : MakeOk l.prog w K mg base (CXE l.prog w) 7 CP "Pack" ["self", "ins", "blocks", "outs"] (spPackX CP ENoPack) := ⟨⟨f29, _, TX, b29, ⟨mkP, a29, i29, kcP⟩, mP⟩⟩
 have DX_ask_length_2 : DefOk l.prog w K mg base (CXE l.prog w) 2 "ask_length" ["row", "length"] (spLengthX ENoRow) := ⟨f4, _, zak2 (k := 1) F4 D_is_listed_1 z_len m_NoRow X_NoRow, b4, k4, m4⟩
 have DX_ask_values_3 : DefOk l.prog w K mg base (CXE l.prog w) 3 "ask_values" ["row", "wides"] (spValuesX ENoRow) := ⟨f5, _, zak3 (k := 2) F5 DX_ask_length_2 D_is_below_2 z_len z_zip m_NoRow X_NoRow, b5, k5, m5⟩
 have DX_ask_bits_4 : DefOk l.prog w K mg base (CXE l.prog w) 4 "ask_bits" ["row", "length"] (spBitsX ENoRow) := ⟨f6, _, zap9 (k := 3) F6 (DX_ask_length_2.mono (by omega)) DX_ask_values_3 z_len, b6, k6, m6⟩
 have D_table_bit_1 : DefOk l.prog w K mg base CX0 1 "table_bit" ["bits", "fed"] spTbit := ⟨f8, _, zaso (k := 0) F8 z_sum z_enumerate, b8, k8, m8⟩
 have D_block_bit_2 : DefOk l.prog w K mg base CX0 2 "block_bit" ["block", "had"] spBB := ⟨f14, _, zavj (k := 1) F14 D_table_bit_1, b14, k14, m14⟩
 have KB : ClsOk l.prog w K mg base CX0 3 "BlockPlayer" "__init__" ["self", "ins", "blocks", "outs"] (spBP CY) := ⟨BB, f33, _, zavk (k := 2) F33 clY nY_ins nY_blocks nY_outs nY_order nY_kept D_loose_order_2 z_enumerate z_dict, b33, ⟨hBB, rBB, a33, k33⟩, mBB⟩
 have MkY : MakeOk l.prog w K mg base CX0 4 CY "PackPlayer" ["self", "pack"] (spPP CP CY) := ⟨⟨f30, _, zavl (k := 3) F30 clP nP_ins nP_blocks nP_outs KB, b30, ⟨mkY, a30, i30, kcY⟩, mY⟩⟩
 have TB := zauu (k := 4) (C := CY) F31 clY nY_ins nY_blocks nY_outs nY_order nY_kept DX_ask_bits_4 (D_block_bit_2.mono (by omega)) z_list z_dict m_SILENCE sil
 have MB : MethOk l.prog w K mg base CX0 5 CY "beat" ["self", "row"] (spBt CY) := ⟨clY, f31, _, TB.calm zas0, b31, ⟨a31, i31, k31⟩⟩
 have MH : MethOk l.prog w K mg base CX0 1 CY "held" ["self"] (spHd CY) := ⟨clY, f32, _, zavm (k := 0) F32 clY nY_kept z_list, b32, ⟨a32, i32, k32⟩⟩
 have D__law_next_1 : DefOk l.prog w K mg base CX0 1 "_law_next" ["_law_script", "_law_at"] (spNext K) := ⟨f15, _, zasm (k := 0) F15 z_len z_range, b15, k15, m15⟩
 have D__law_some_bits_2 : DefOk l.prog w K mg base CX0 2 "_law_some_bits" ["_law_script", "_law_at", "_law_many"] (spBits K) := ⟨f16, _, zasn (k := 1) F16 D__law_next_1 z_range, b16, k16, m16⟩
 have D__law_same_1 : DefOk l.prog w K mg base CX0 1 "_law_same" ["_law_found", "_law_due"] spF := ⟨f17, _, zaqb (k := 0) F17, b17, k17, m17⟩
 have D__law_same_2 : DefOk l.prog w K mg base CX0 2 "_law_same" ["_law_found", "_law_due"] (spSame 0) := ⟨f17, _, zaqa (k := 1) F17 D__law_same_1 z_isinstance z_dict z_list z_tuple z_str z_int z_bool z_len z_all z_zip, b17, k17, m17⟩
 have D__law_same_3 : DefOk l.prog w K mg base CX0 3 "_law_same" ["_law_found", "_law_due"] (spSame 1) := ⟨f17, _, zaqc (k := 2) F17 D__law_same_2 z_isinstance z_dict z_list z_tuple z_str z_int z_bool z_len z_all z_zip, b17, k17, m17⟩
 have D__law_drawn_source_2 : DefOk l.prog w K mg base CX0 2 "_law_drawn_source" ["_law_script", "_law_at", "_law_ins", "_law_blocks"] (spSrc K) := ⟨f18, _, zauy (k := 1) F18 D__law_next_1, b18, k18, m18⟩
 have D__law_any_blocks_3 : DefOk l.prog w K mg base CX0 3 "_law_any_blocks" ["_law_script", "_law_at", "_law_ins", "_law_many"] (spAny K) := ⟨f24, _, zau0 (k := 2) F24 (D__law_next_1.mono (by omega)) D__law_drawn_source_2 z_range z_len z_int, b24, k24, m24⟩
 have D__law_comes_back_1 : DefOk l.prog w K mg base CX0 1 "_law_comes_back" ["_law_blocks", "_law_start"] spCB := ⟨f25, _, zavr (k := 0) F25 z_len, b25, k25, m25⟩
 have D__law_bit_1 : DefOk l.prog w K mg base CX0 1 "_law_bit" ["_law_bits", "_law_feeds"] spLB := ⟨f19, _, zavn (k := 0) F19 z_range z_len, b19, k19, m19⟩
 have DH : DefOk l.prog w K mg base CX0 (1 + 1 + 41) "_law_had" ["_law_blocks", "_law_row", "_law_kept", "_law_source", "_law_known"] (spL 41) := zass (k := 1) (fun k sp F => ⟨f20, _, F, b20, k20, m20⟩) F20 D__law_bit_1 41
 have D__law_beat_44 : DefOk l.prog w K mg base CX0 44 "_law_beat" ["_law_blocks", "_law_outs", "_law_row", "_law_kept"] spLT := ⟨f21, _, zavp (k := 43) F21 DH (D__law_bit_1.mono (by omega)), b21, k21, m21⟩
 have D__law_firsts_1 : DefOk l.prog w K mg base CX0 1 "_law_firsts" ["_law_blocks"] spFi := ⟨f22, _, zavs (k := 0) F22 z_range z_len z_dict, b22, k22, m22⟩
 have D__law_only_1 : DefOk l.prog w K mg base CX0 1 "_law_only" ["_law_caught", "_law_kind"] (spOnly ENoPack) := ⟨f23, _, zasy (k := 0) F23 wp m_NoText m_NoSense m_NoNet m_NoRow m_NoTables m_NoPack m_NoFloor m_OutOfFloor m_NoRoom m_NoWays m_NoBits z_isinstance z_ValueError z_len, b23, k23, m23⟩
 have D__law_told_9 : DefOk l.prog w K mg base CX0 9 "_law_told" ["_law_ins", "_law_blocks", "_law_outs"] (spTold CP) := ⟨f26, _, zasz (k := 7) F26 MkX (D__law_only_1.mono (by omega)) m_FloorError XF XR sub, b26, k26, m26⟩
 have D__law_round_46 : DefOk l.prog w K mg base CX0 46 "_law_round" ["_law_script", "_law_at"] (spRnd K) := ⟨f27, _, zau3 (k := 44) F27 (D__law_next_1.mono (by omega)) (D__law_any_blocks_3.mono (by omega)) (D__law_some_bits_2.mono (by omega)) (D__law_comes_back_1.mono (by omega)) (D__law_told_9.mono (by omega)) (D__law_firsts_1.mono (by omega)) (D__law_beat_44.mono (by omega)) (D__law_same_3.mono (by omega)) (MB.mono (by omega)) (MH.mono (by omega)) (MkY.mono (by omega)) z_range z_list z_len z_sorted z_isinstance mP clP oclP xsg xtk omoP owP, b27, k27, m27⟩
 exact zau4 (k := 59) F28 (D__law_round_46.mono (by omega))
end

end B17
open PySem PySem.W PyProof.Rows
theorem PySem.W.Fast.tw3070094467754900315 : True := trivial
theorem PySem.W.Fast.tw1200798200139427664 : True := trivial
theorem PySem.W.Fast.tw33958321065792596 : True := trivial
theorem PySem.W.Fast.tw5522640658607191956 : True := trivial
theorem PySem.W.Fast.tw6782877497476426037 : True := trivial
theorem PySem.W.Fast.tw12438346422066945002 : True := trivial
theorem PySem.W.Fast.tw2202508527335327716 : True := trivial
theorem PySem.W.Fast.tw10866681930168139068 : True := trivial
theorem PySem.W.Fast.tw7931928572555839169 : True := trivial
theorem PySem.W.Fast.tw6551619882767135384 : True := trivial
theorem PySem.W.Fast.tw5705617394257250962 : True := trivial
theorem PySem.W.Fast.tw528132911337086783 : True := trivial
theorem PySem.W.Fast.tw14785438561344050690 : True := trivial
theorem PySem.W.Fast.tw15076306509110605847 : True := trivial
theorem PySem.W.Fast.tw17847008523954706468 : True := trivial
theorem PySem.W.Fast.tw13218130589780861759 : True := trivial
theorem PySem.W.Fast.tw10177115848886956502 : True := trivial
theorem PySem.W.Fast.tw14172584203512461569 : True := trivial
theorem PySem.W.Fast.tw10622070335001688750 : True := trivial
theorem PySem.W.Fast.tw3217176796572426513 : True := trivial
theorem PySem.W.Fast.tw15852521572808727142 : True := trivial
theorem PySem.W.Fast.tw6541488677841878622 : True := trivial
theorem PySem.W.Fast.tw1086666640529933151 : True := trivial
theorem PySem.W.Fast.tw14676304642395335542 : True := trivial
theorem PySem.W.Fast.tw12899861080829072764 : True := trivial
theorem PySem.W.Fast.tw6980154806092941279 : True := trivial
theorem PySem.W.Fast.tw7759063253311185118 : True := trivial
theorem PySem.W.Fast.tw14128263428691106076 : True := trivial
theorem PySem.W.Fast.tw12508842995925917755 : True := trivial
theorem PySem.W.Fast.tw462419644287842901 : True := trivial
theorem PySem.W.Fast.tw10755944948824605383 : True := trivial
theorem PySem.W.Fast.tw10021041060815636117 : True := trivial
theorem PySem.W.Fast.tw10624230359077855894 : True := trivial
theorem PySem.W.Fast.tw7201560646493354684 : True := trivial
theorem PySem.W.Fast.tw2922696900274899248 : True := trivial
theorem PySem.W.Fast.tw2181414418543909076 : True := trivial
theorem PySem.W.Fast.tw896609000674620267 : True := trivial
theorem PySem.W.Fast.tw8176851295103611568 : True := trivial
theorem PySem.W.Fast.tw5754865753020068371 : True := trivial
theorem PySem.W.Fast.tw2522617608405167038 : True := trivial
theorem PySem.W.Fast.tw10858667088282564821 : True := trivial
theorem PySem.W.Fast.tw7822410949278013945 : True := trivial
theorem PySem.W.Fast.tw8312688101485474600 : True := trivial
theorem PySem.W.Fast.tw1660593973810633133 : True := trivial
theorem PySem.W.Fast.tw13227571900775400719 : True := trivial
theorem PySem.W.Fast.tw4456041366696602407 : True := trivial
theorem PySem.W.Fast.tw14694642246572270472 : True := trivial
theorem PySem.W.Fast.tw13143552920370203329 : True := trivial
theorem PySem.W.Fast.tw455089048218689568 : True := trivial
theorem PySem.W.Fast.tw14256967339083652129 : True := trivial
theorem PySem.W.Fast.tw17320084367856419585 : True := trivial
theorem PySem.W.Fast.tw10319737546405889180 : True := trivial
theorem PySem.W.Fast.tw1681497464776552035 : True := trivial
theorem PySem.W.Fast.tw4762985748215355955 : True := trivial
theorem PySem.W.Fast.tw7069550700024684304 : True := trivial
theorem PySem.W.Fast.tw9533651105973703661 : True := trivial
theorem PySem.W.Fast.tw17692506823422047443 : True := trivial
theorem PySem.W.Fast.tw17992196912742959960 : True := trivial
theorem PySem.W.Fast.tw4531257622081488295 : True := trivial
theorem PySem.W.Fast.tw3541658652560972219 : True := trivial
theorem PySem.W.Fast.tw5754567864866026098 : True := trivial
theorem PySem.W.Fast.tw6262115392895217193 : True := trivial
theorem PySem.W.Fast.tw3237688785420446292 : True := trivial
theorem PySem.W.Fast.tw17158503906719229629 : True := trivial
theorem PySem.W.Fast.tw15315448893335247714 : True := trivial
theorem PySem.W.Fast.tw5570915738883908588 : True := trivial
theorem PySem.W.Fast.tw17922259780054271004 : True := trivial
theorem PySem.W.Fast.tw13692275964973016834 : True := trivial
theorem PySem.W.Fast.tw5859251334139039762 : True := trivial
theorem PySem.W.Fast.tw11683078664829731970 : True := trivial
theorem PySem.W.Fast.tw6192789971508454839 : True := trivial
theorem PySem.W.Fast.tw10764553032911301941 : True := trivial
theorem PySem.W.Fast.tw164632086543920190 : True := trivial
theorem PySem.W.Fast.tw17391602251358792509 : True := trivial
theorem PySem.W.Fast.tw3794857942373105233 : True := trivial
theorem PySem.W.Fast.tw12163605181810751891 : True := trivial
theorem PySem.W.Fast.tw4488109754798036583 : True := trivial
theorem PySem.W.Fast.tw6008590279063479968 : True := trivial
theorem PySem.W.Fast.tw15894124966660009593 : True := trivial
theorem PySem.W.Fast.tw137435514475884608 : True := trivial
theorem PySem.W.Fast.tw3657192713432754737 : True := trivial
theorem PySem.W.Fast.tw4410745015500741715 : True := trivial
theorem PySem.W.Fast.tw1254280552338343344 : True := trivial
theorem PySem.W.Fast.tw8478826295623797005 : True := trivial
theorem PySem.W.Fast.tw9447245238026967503 : True := trivial
theorem PySem.W.Fast.tw178667062191213898 : True := trivial
theorem PySem.W.Fast.tw13542001168494166315 : True := trivial
theorem PySem.W.Fast.tw1726309335555263571 : True := trivial
theorem PySem.W.Fast.tw12967322164057049465 : True := trivial
theorem PySem.W.Fast.tw8785816596332941529 : True := trivial
theorem PySem.W.Fast.tw13720324246000347641 : True := trivial
theorem PySem.W.Fast.tw4068999311612839379 : True := trivial
theorem PySem.W.Fast.tw1825546416951461654 : True := trivial
theorem PySem.W.Fast.tw10419109240587619466 : True := trivial
theorem PySem.W.Fast.tw4896217558146091032 : True := trivial
theorem PySem.W.Fast.tw3758107549030266836 : True := trivial
theorem PySem.W.Fast.tw6190677640893934924 : True := trivial
theorem PySem.W.Fast.tw10619523485657338298 : True := trivial
theorem PySem.W.Fast.tw3349186159278153413 : True := trivial
theorem PySem.W.Fast.tw9319720086896878194 : True := trivial
theorem PySem.W.Fast.tw15016869621635942117 : True := trivial
theorem PySem.W.Fast.tw391392092878348942 : True := trivial
theorem PySem.W.Fast.tw733536104821421774 : True := trivial
theorem PySem.W.Fast.tw14341891233722195011 : True := trivial
theorem PySem.W.Fast.tw704622891912211590 : True := trivial
theorem PySem.W.Fast.tw18370110301364149395 : True := trivial
theorem PySem.W.Fast.tw9433363263029482265 : True := trivial
theorem PySem.W.Fast.tw15499323268235288772 : True := trivial
theorem PySem.W.Fast.tw11860867396054502040 : True := trivial
theorem PySem.W.Fast.tw14446315277587382863 : True := trivial
theorem PySem.W.Fast.tw2665723088981353533 : True := trivial
theorem PySem.W.Fast.tw12750012606805573939 : True := trivial
theorem PySem.W.Fast.tw14452070067318048401 : True := trivial
theorem PySem.W.Fast.tw1226177406044841661 : True := trivial
theorem PySem.W.Fast.tw2704805864379035899 : True := trivial
theorem PySem.W.Fast.tw6300932675595679091 : True := trivial
theorem PySem.W.Fast.tw9901459304697615375 : True := trivial
theorem PySem.W.Fast.tw12996824204823046804 : True := trivial
theorem PySem.W.Fast.tw2161699853252756566 : True := trivial
theorem PySem.W.Fast.tw15409310114457567505 : True := trivial
theorem PySem.W.Fast.tw337300311537978552 : True := trivial
set_option maxRecDepth 100000 in
set_option maxHeartbeats 0 in
theorem PySem.Challenge.cw_bitfloor_k46_packs_in_rings_holds : PySem.Challenge.rw_bitfloor_k46_packs_in_rings.Holds := by
 w_on; o_law; k_head; (case hw => w_witness2)
 k_fill
 refine L2.zapf (l := PySem.Challenge.rw_bitfloor_k46_packs_in_rings) (n := 63) (k := 60) (x := "_law_script") (CX := L2.CX0) (sp := B17.spLaw) rfl (by decide) rfl ⟨rfl, by decide, by decide⟩ (fun w h Y => PySem.W.kIn_of Y) ?F ?S ?C
 case F =>
  intro w mg fa h KX G hmg
  refine' B17.zau6 KX G hmg ?aBB ?hBB ?rBB ?aSSILENCE ?lSSILENCE ?xc_NoRow ?aP ?aY ?eFloorError ?eNoRow ?eNoTables ?eNoPack ?eNoFloor ?eOutOfFloor ?eNoRoom ?eNoText ?eNoSense ?eNoNet ?eNoWays ?eNoBits ?a0 ?l0 ?c0 ?k0 ?a1 ?l1 ?c1 ?k1 ?a2 ?l2 ?c2 ?k2 ?a3 ?l3 ?c3 ?k3 ?a4 ?l4 ?c4 ?k4 ?a5 ?l5 ?c5 ?k5 ?a6 ?l6 ?c6 ?k6 ?a7 ?l7 ?c7 ?k7 ?a8 ?l8 ?c8 ?k8 ?a9 ?l9 ?c9 ?k9 ?a10 ?l10 ?c10 ?k10 ?a11 ?l11 ?c11 ?k11 ?a12 ?l12 ?c12 ?k12 ?a13 ?l13 ?c13 ?k13 ?a14 ?l14 ?c14 ?k14 ?a15 ?l15 ?c15 ?k15 ?a16 ?l16 ?c16 ?k16 ?a17 ?l17 ?c17 ?k17 ?a18 ?l18 ?c18 ?k18 ?a19 ?l19 ?c19 ?k19 ?a20 ?l20 ?c20 ?k20 ?a21 ?l21 ?c21 ?k21 ?a22 ?l22 ?c22 ?k22 ?a23 ?l23 ?c23 ?k23 ?a24 ?l24 ?c24 ?k24 ?a25 ?l25 ?c25 ?k25 ?a26 ?l26 ?c26 ?k26 ?a27 ?l27 ?c27 ?k27 ?a28 ?l28 ?c28 ?k28 ?a29 ?l29 ?c29 ?k29 ?i29 ?a30 ?l30 ?c30 ?k30 ?i30 ?a31 ?l31 ?c31 ?k31 ?i31 ?a32 ?l32 ?c32 ?k32 ?i32 ?a33 ?l33 ?c33 ?k33 ?pgP ?hdP ?poP ?saP ?mkP ?kcP ?nP_ins ?nP_blocks ?nP_outs ?pgY ?hdY ?poY ?saY ?mkY ?kcY ?nY_ins ?nY_blocks ?nY_outs ?nY_order ?nY_kept ?z_len ?z_range ?z_int ?z_str ?z_isinstance ?z_zip ?z_list ?z_tuple ?z_dict ?z_bool ?z_all ?z_enumerate ?z_sum ?z_sorted ?z_ValueError ?xcR ?xcF ?xsb ?xga ?xgt ?xcl ?xsg ?xtk ?xmo ?w_NoText ?w_NoSense ?w_NoNet ?w_NoRow ?w_NoTables ?w_NoPack ?w_NoFloor ?w_OutOfFloor ?w_NoRoom ?w_NoWays ?w_NoBits ?w_V ?oclP ?omoP ?owP
  (case aBB => k_is)
  (case hBB => k_is)
  (case rBB => k_is)
  (case aSSILENCE => k_is)
  (case lSSILENCE => k_is)
  (case aP => k_is)
  (case aY => k_is)
  (case eFloorError => k_is)
  (case eNoRow => k_is)
  (case eNoTables => k_is)
  (case eNoPack => k_is)
  (case eNoFloor => k_is)
  (case eOutOfFloor => k_is)
  (case eNoRoom => k_is)
  (case eNoText => k_is)
  (case eNoSense => k_is)
  (case eNoNet => k_is)
  (case eNoWays => k_is)
  (case eNoBits => k_is)
  (case a0 => k_is)
  (case l0 => k_is)
  (case c0 => k_is)
  (case k0 => k_is)
  (case a1 => k_is)
  (case l1 => k_is)
  (case c1 => k_is)
  (case k1 => k_is)
  (case a2 => k_is)
  (case l2 => k_is)
  (case c2 => k_is)
  (case k2 => k_is)
  (case a3 => k_is)
  (case l3 => k_is)
  (case c3 => k_is)
  (case k3 => k_is)
  (case a4 => k_is)
  (case l4 => k_is)
  (case c4 => k_is)
  (case k4 => k_is)
  (case a5 => k_is)
  (case l5 => k_is)
  (case c5 => k_is)
  (case k5 => k_is)
  (case a6 => k_is)
  (case l6 => k_is)
  (case c6 => k_is)
  (case k6 => k_is)
  (case a7 => k_is)
  (case l7 => k_is)
  (case c7 => k_is)
  (case k7 => k_is)
  (case a8 => k_is)
  (case l8 => k_is)
  (case c8 => k_is)
  (case k8 => k_is)
  (case a9 => k_is)
  (case l9 => k_is)
  (case c9 => k_is)
  (case k9 => k_is)
  (case a10 => k_is)
  (case l10 => k_is)
  (case c10 => k_is)
  (case k10 => k_is)
  (case a11 => k_is)
  (case l11 => k_is)
  (case c11 => k_is)
  (case k11 => k_is)
  (case a12 => k_is)
  (case l12 => k_is)
  (case c12 => k_is)
  (case k12 => k_is)
  (case a13 => k_is)
  (case l13 => k_is)
  (case c13 => k_is)
  (case k13 => k_is)
  (case a14 => k_is)
  (case l14 => k_is)
  (case c14 => k_is)
  (case k14 => k_is)
  (case a15 => k_is)
  (case l15 => k_is)
  (case c15 => k_is)
  (case k15 => k_is)
  (case a16 => k_is)
  (case l16 => k_is)
  (case c16 => k_is)
  (case k16 => k_is)
  (case a17 => k_is)
  (case l17 => k_is)
  (case c17 => k_is)
  (case k17 => k_is)
  (case a18 => k_is)
  (case l18 => k_is)
  (case c18 => k_is)
  (case k18 => k_is)
  (case a19 => k_is)
  (case l19 => k_is)
  (case c19 => k_is)
  (case k19 => k_is)
  (case a20 => k_is)
  (case l20 => k_is)
  (case c20 => k_is)
  (case k20 => k_is)
  (case a21 => k_is)
  (case l21 => k_is)
  (case c21 => k_is)
  (case k21 => k_is)
  (case a22 => k_is)
  (case l22 => k_is)
  (case c22 => k_is)
  (case k22 => k_is)
  (case a23 => k_is)
  (case l23 => k_is)
  (case c23 => k_is)
  (case k23 => k_is)
  (case a24 => k_is)
  (case l24 => k_is)
  (case c24 => k_is)
  (case k24 => k_is)
  (case a25 => k_is)
  (case l25 => k_is)
  (case c25 => k_is)
  (case k25 => k_is)
  (case a26 => k_is)
  (case l26 => k_is)
  (case c26 => k_is)
  (case k26 => k_is)
  (case a27 => k_is)
  (case l27 => k_is)
  (case c27 => k_is)
  (case k27 => k_is)
  (case a28 => k_is)
  (case l28 => k_is)
  (case c28 => k_is)
  (case k28 => k_is)
  (case a29 => k_is)
  (case l29 => k_is)
  (case c29 => k_is)
  (case k29 => k_is)
  (case i29 => k_is)
  (case a30 => k_is)
  (case l30 => k_is)
  (case c30 => k_is)
  (case k30 => k_is)
  (case i30 => k_is)
  (case a31 => k_is)
  (case l31 => k_is)
  (case c31 => k_is)
  (case k31 => k_is)
  (case i31 => k_is)
  (case a32 => k_is)
  (case l32 => k_is)
  (case c32 => k_is)
  (case k32 => k_is)
  (case i32 => k_is)
  (case a33 => k_is)
  (case l33 => k_is)
  (case c33 => k_is)
  (case k33 => k_is)
  (case pgP => k_is)
  (case hdP => k_is)
  (case poP => k_is)
  (case saP => k_is)
  (case mkP => k_is)
  (case kcP => k_is)
  (case nP_ins => k_is)
  (case nP_blocks => k_is)
  (case nP_outs => k_is)
  (case pgY => k_is)
  (case hdY => k_is)
  (case poY => k_is)
  (case saY => k_is)
  (case mkY => k_is)
  (case kcY => k_is)
  (case nY_ins => k_is)
  (case nY_blocks => k_is)
  (case nY_outs => k_is)
  (case nY_order => k_is)
  (case nY_kept => k_is)
  (case z_len => k_is)
  (case z_range => k_is)
  (case z_int => k_is)
  (case z_str => k_is)
  (case z_isinstance => k_is)
  (case z_zip => k_is)
  (case z_list => k_is)
  (case z_tuple => k_is)
  (case z_dict => k_is)
  (case z_bool => k_is)
  (case z_all => k_is)
  (case z_enumerate => k_is)
  (case z_sum => k_is)
  (case z_sorted => k_is)
  (case z_ValueError => k_is)
  (case xcR => k_exc)
  (case xcF => k_exc)
  (case xsb => k_is)
  (case xga => k_is)
  (case xgt => k_is)
  (case xcl => k_is)
  (case xsg => k_is)
  (case xtk => k_is)
  (case xmo => k_is)
  (case w_NoText => kit_is)
  (case w_NoSense => kit_is)
  (case w_NoNet => kit_is)
  (case w_NoRow => kit_is)
  (case w_NoTables => kit_is)
  (case w_NoPack => kit_is)
  (case w_NoFloor => kit_is)
  (case w_OutOfFloor => kit_is)
  (case w_NoRoom => kit_is)
  (case w_NoWays => kit_is)
  (case w_NoBits => kit_is)
  (case w_V => kit_is)
  (case oclP => k_is)
  (case omoP => k_is)
  (case owP => kit_is)
  (case xc_NoRow => k_exc)
 case S => exact fun K H a ns hl hO hS => ⟨a, ns, rfl, L2.Scr.of hS hl hO, fun _ => rfl⟩
 case C => exact fun _ _ _ _ z => z
